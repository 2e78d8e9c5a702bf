"""Way charts: charts in which it can be seen whether there are several ways."""

from surespan.charts import MoveFinder, chart_by
from surespan.plans import Plan
from surespan.trees import need_regular
from surespan.wayorder import ordered_states, state_of, states_behind

# So many walks are as good as any greater number of them.
ENOUGH = 2


def way_chart(tree):
    """Return the chart of a regular tree in which different ways are different walks; raise NotRegular.

    Of several moves with the same target, those are left out of which two others ask for nothing more. Moves that
    are equal stand for different ways. They are not ordered, and they have no marks.
    """
    need_regular(tree)
    return chart_by(WayFinder(Plan(tree)))


class WayFinder(MoveFinder):
    """Finds the moves of the places of a way chart."""

    def __init__(self, plan):
        super().__init__(plan)
        self.ordered = ordered_states(plan)

    def paths_from(self, first):
        """Return the list of the triples (last task, tests as bits, no marks) of the paths from a task."""
        tasks = self.plan.tasks
        # For each state the tests of the paths that lead to it.
        reached = {state_of(tasks, first, False): [0]}
        found = []
        for state in self.ordered:
            kept = least_twice(reached.get(state, []))
            if tasks[state[0]][0] in ("set", "end"):
                found.extend([(state[0], bits, ()) for bits in kept])
            else:
                passed = [bits | self.asked_by(tasks[state[0]]) for bits in kept]
                for after in states_behind(tasks, state):
                    reached.setdefault(after, []).extend(passed)
        return found

    def asked_by(self, task):
        """Return the number in which only the bit of the test of a task is 1, or 0 if it tests nothing."""
        return self.bit_of(task) if task[0] in ("edge", "look") else 0


def least_twice(found):
    """Return the list of the numbers of a list without those of which two others have no bits but theirs."""
    kept = []
    # A number that has all bits of another one is not less than that.
    for bits in sorted(found):
        if len([other for other in kept if not other & ~bits]) < ENOUGH:
            kept.append(bits)
    return kept
