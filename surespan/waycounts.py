"""Numbers of ways."""

from surespan.looktables import look_table
from surespan.meaning import edge_holds
from surespan.plans import Plan
from surespan.trees import need_regular
from surespan.wayorder import ordered_states, state_of, states_behind


def ways_row(tree, text, index=0):
    """Return the list of the numbers of ways from the index, by the indexes at which they end. Raises NotRegular."""
    need_regular(tree)
    return WayCounter(tree, text).numbers_from(index)


def whole_ways(tree, text):
    """Return the number of the whole ways on a text. Raises NotRegular."""
    return ways_row(tree, text)[-1]


class WayCounter:
    """Counts the ways of a regular tree on a text, for all states of its plan side by side."""

    def __init__(self, tree, text):
        self.text = text
        plan = Plan(tree)
        states = ordered_states(plan)
        numbers = {state: number for number, state in enumerate(states)}
        self.first = numbers[state_of(plan.tasks, plan.first, False)]
        # For each state, in their order, its task, and the numbers of the states that follow it.
        self.tasks = [plan.tasks[state[0]] for state in states]
        self.followers = [[numbers[after] for after in states_behind(plan.tasks, state)] for state in states]
        self.behind_sign = [
            numbers[state_of(plan.tasks, task[-1], False)] if task[0] == "set" else None for task in self.tasks
        ]
        self.tables = [look_table(side, body, text) for side, body in list(plan.looks)]

    def numbers_from(self, index):
        """Return the list of the numbers of ways from the index, by the indexes at which they end."""
        found = [0] * (len(self.text) + 1)
        counts = [0] * len(self.tasks)
        counts[self.first] = 1
        for at in range(index, len(self.text) + 1):
            found[at], counts = self.counts_behind(counts, at)
        return found

    def counts_behind(self, counts, at):
        """Return the number of the ways that end at an index, and those of the ways to the states behind its sign.

        `counts` has for each state the number of the ways that lead to it by the sign before the index.
        """
        counts = list(counts)
        behind = [0] * len(counts)
        ended = 0
        for number, task in enumerate(self.tasks):
            count = counts[number]
            if count == 0:
                continue
            if task[0] == "end":
                ended = ended + count
            elif task[0] == "set":
                if at < len(self.text) and self.text[at] in task[1]:
                    behind[self.behind_sign[number]] = behind[self.behind_sign[number]] + count
            elif self.may_pass(task, at):
                for after in self.followers[number]:
                    counts[after] = counts[after] + count
        return ended, behind

    def may_pass(self, task, at):
        """Return True if ways may go on behind a task that reads nothing, as far as its test goes, otherwise False."""
        if task[0] == "edge":
            return edge_holds(task[1], self.text, at)
        return task[0] != "look" or self.tables[task[1]][at] == task[2]
