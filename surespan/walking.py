"""The machine that carries out steps, and the ways and answers that it finds."""

from surespan.errors import OutOfSteps
from surespan.meaning import edge_holds
from surespan.rows import copy_end, with_span
from surespan.steps import compile_steps


class Meter:
    """Counts the steps of several runs; no more than `budget` are allowed, unless it is None."""

    def __init__(self, budget):
        self.budget = budget
        self.used = 0

    def count_step(self):
        """Count the step that is carried out next."""
        if self.used == self.budget:
            raise OutOfSteps(self.budget)
        self.used = self.used + 1


class Run:
    """A run of steps on a text from an index; its steps are counted by a meter.

    `goal` is the only index at which the run can succeed; if it is None, it can succeed at each index.
    """

    def __init__(self, steps, text, index, goal, meter):
        self.steps = steps
        self.text = text
        self.goal = goal
        self.meter = meter
        # The machine begins as if it had failed, with the beginning of the run as its only alternative.
        self.stack = [(0, index, (), {})]

    def next_success(self):
        """Go on up to the next success; return its index and row, or None if the run ends without one."""
        while self.stack:
            counter, index, row, slots = self.stack.pop()
            success = self.go_on(counter, index, row, slots)
            if success is not None:
                return success
        return None

    def go_on(self, counter, index, row, slots):
        """Carry out steps from this state of the machine; return the success, or None if the machine fails."""
        while True:
            self.meter.count_step()
            step = self.steps[counter]
            kind = step[0]
            counter = counter + 1
            if kind == "sign":
                if index == len(self.text) or self.text[index] not in step[1]:
                    return None
                index = index + 1
            elif kind == "fork":
                self.stack.append((step[2], index, row, slots))
                counter = step[1]
            elif kind == "jump":
                counter = step[1]
            elif kind == "store":
                slots = {**slots, step[1]: index}
            elif kind == "close":
                row = with_span(row, step[2], slots[step[1]], index)
            elif kind == "same":
                index = copy_end(row, self.text, step[1], index)
                if index is None:
                    return None
            elif kind == "accept":
                return (index, row) if self.goal in (None, index) else None
            elif not self.may_pass(step, index, slots):
                return None

    def may_pass(self, step, index, slots):
        """Return True if a step that only asks a question lets the machine go on, otherwise False."""
        if step[0] == "moved":
            return slots[step[1]] != index
        if step[0] == "edge":
            return edge_holds(step[1], self.text, index)
        side, wanted, steps = step[1:]
        return self.look_succeeds(side, steps, index) == wanted

    def look_succeeds(self, side, steps, index):
        """Return True if the steps of a look succeed at the index, otherwise False."""
        if side == "ahead":
            return Run(steps, self.text, index, None, self.meter).next_success() is not None
        for start in range(index, -1, -1):
            if Run(steps, self.text, start, index, self.meter).next_success() is not None:
                return True
        return False


def walk_way(tree, text, index=0, *, whole=False, budget=None):
    """Return the outcome of the first way, or of the first whole way, or None, found by one run."""
    return way_of_run(tree, text, index, whole, Meter(budget))


def walk_cost(tree, text, index=0, *, whole=False):
    """Return the cost of the run of `walk_way`."""
    meter = Meter(None)
    way_of_run(tree, text, index, whole, meter)
    return meter.used


def way_of_run(tree, text, index, whole, meter):
    """Return the first success of the run from the index, or None; its steps are counted by the meter."""
    goal = len(text) if whole else None
    return Run(compile_steps(tree), text, index, goal, meter).next_success()


def walk_answer(tree, text, start=0, *, budget=None):
    """Return the first answer (start, end, row) from the start index, or None, found by runs."""
    steps = compile_steps(tree)
    meter = Meter(budget)
    for index in range(start, len(text) + 1):
        way = Run(steps, text, index, None, meter).next_success()
        if way is not None:
            return (index,) + way
    return None


def each_way(tree, text, index=0):
    """Yield the outcomes of all ways from the index, in the order of the ways."""
    run = Run(compile_steps(tree), text, index, None, Meter(None))
    way = run.next_success()
    while way is not None:
        yield way
        way = run.next_success()
