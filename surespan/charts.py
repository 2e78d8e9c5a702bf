"""Charts: regular trees as places, and moves between them."""

from surespan.plans import END, Plan
from surespan.trees import need_regular

# The target of a move with which a walk ends.
STOP = -1


def chart_of(tree):
    """Return the chart (places, looks) of a regular tree; raise NotRegular for another tree."""
    need_regular(tree)
    return chart_by(MoveFinder(Plan(tree)))


def chart_by(finder):
    """Return the chart with the moves that a finder finds."""
    tasks = finder.plan.tasks
    # A plan is made from the end of its tree, so the last task is the first one to be met.
    readers = [number for number in range(len(tasks) - 1, END, -1) if tasks[number][0] == "set"]
    targets = {number: place for place, number in enumerate(readers, start=1)}
    targets[END] = STOP
    places = [("", finder.moves_from(finder.plan.first, targets))]
    for number in readers:
        signs, after = tasks[number][1:]
        places.append((signs, finder.moves_from(after, targets)))
    return tuple(places), tuple(finder.looks)


def looks_of(plan):
    """Return the list of the pairs (side, chart) for the looks of a plan."""
    return [(side, chart_of(body)) for side, body in list(plan.looks)]


class MoveFinder:
    """Finds the moves of the places of a chart."""

    def __init__(self, plan):
        self.plan = plan
        found = looks_of(plan)
        self.looks = [look for at, look in enumerate(found) if look not in found[:at]]
        # For each look of the plan its number among the looks of the chart, of which no two are equal.
        self.look_numbers = [self.looks.index(look) for look in found]
        # All tests met so far; a number stands for those of them whose places have a 1 among its bits.
        self.tests = []
        self.known = {}

    def moves_from(self, first, targets):
        """Return the tuple of the moves of a place that the task `first` follows."""
        if first not in self.known:
            self.known[first] = tuple([
                (self.tests_in(bits), marks, targets[number]) for number, bits, marks in self.paths_from(first)
            ])
        return self.known[first]

    def paths_from(self, first):
        """Return the list of the triples (last task, tests as bits, marks) of the paths that no move makes idle.

        A path leads from the task `first` to a task that reads a sign or to the end, and reads nothing before.
        """
        found = []
        met = {}
        stack = [(first, False, 0, ())]
        while stack:
            number, still, bits, marks = stack.pop()
            kind = self.plan.tasks[number][0]
            is_last = kind in ("set", "end")
            # At the last task it makes no difference any more whether an iteration must move.
            if is_new(met.setdefault((number, still and not is_last), []), bits):
                if is_last:
                    found.append((number, bits, marks))
                else:
                    stack.extend(self.states_after(number, still, bits, marks)[::-1])
        return found

    def states_after(self, number, still, bits, marks):
        """Return the list of the states of a path to which a task leads, in their order."""
        task = self.plan.tasks[number]
        kind, after = task[0], task[-1]
        if kind == "choice":
            return [(choice, still, bits, marks) for choice in after]
        if kind == "begin":
            return [(after, True, bits, marks)]
        if kind == "moved":
            # If no iteration has begun on the path, the place has been reached in the midst of one that has moved.
            return [] if still else [(after, False, bits, marks)]
        if kind in ("store", "close"):
            return [(after, still, bits, marks + (task[:-1],))]
        return [(after, still, bits | self.bit_of(task), marks)]

    def bit_of(self, task):
        """Return the number in which only the bit of the test of an edge or a look is 1."""
        test = task[:-1]
        if task[0] == "look":
            test = ("look", self.look_numbers[task[1]], task[2])
        if test not in self.tests:
            self.tests.append(test)
        return 1 << self.tests.index(test)

    def tests_in(self, bits):
        """Return the tuple of the tests for which a number stands."""
        return tuple([test for at, test in enumerate(self.tests) if bits >> at & 1])


def is_new(met, bits):
    """Return True if no number in the list `met` stands for some of these tests or for all; put `bits` there if so."""
    for earlier in met:
        if earlier | bits == bits:
            return False
    met.append(bits)
    return True
