"""Tables: the results of a tree on texts, with one look-up per sign."""

from surespan.errors import TooManyStates
from surespan.flows import NEW
from surespan.flowstates import FlowStates
from surespan.grounds import END
from surespan.rows import with_marks


class Table:
    """Reads texts sign by sign; `mode` is "search", "here" or "whole". Raises NotRegular."""

    def __init__(self, tree, *, mode="search"):
        self._numbered = FlowStates(tree, mode)
        self._flow = self._numbered.flow
        self._numbered.number_of(self._flow.first_state)

    @property
    def states(self):
        """The number of the states met so far."""
        return len(self._numbered.met)

    @property
    def division(self):
        """The list of the cells."""
        return list(self._flow.ground.cell_texts)

    def answer(self, text):
        """Return the result (start, end, row) for a text, or None."""
        path = [0]
        for sign in text:
            path.append(self._numbered.target(path[-1], self._flow.cell_numbers[sign]))
        found = self._numbered.result(path[-1])
        if found is None:
            return None
        return self._trace(text, path, found)

    def state_after(self, text):
        """Return the number of the state after a text."""
        state = 0
        for sign in text:
            state = self.follow(state, sign)
        return state

    def follow(self, state, sign):
        """Return the number of the state that one more sign leads to."""
        return self._numbered.target(state, self._flow.cell_numbers[sign])

    def complete(self, limit):
        """Meet all states that texts can lead to; return their number, or raise TooManyStates(limit)."""
        state = 0
        while state < len(self._numbered.met):
            for cell in range(len(self._flow.ground.cell_texts)):
                if len(self._numbered.met) > limit:
                    raise TooManyStates(limit)
                self._numbered.target(state, cell)
            state = state + 1
        return len(self._numbered.met)

    def _trace(self, text, path, found):
        """Return the answer of the walk that ends in the last state of a path, as `Flow.result` tells."""
        lane, marks = found
        told = [(len(text), marks)]
        index = len(text)
        end = index if self._place(path[index], lane) != END else None
        while index > 0:
            cell = self._flow.cell_numbers[text[index - 1]]
            origin = self._numbered.step(path[index - 1], cell)[1][lane]
            if origin == NEW:
                break
            index = index - 1
            lane, marks = origin
            told.append((index, marks))
            # The last step back from the end leads to the index where the walk has ended.
            if end is None and self._place(path[index], lane) != END:
                end = index
        row, slots = (), {}
        for at, marks in told[::-1]:
            row, slots = with_marks(row, slots, marks, at)
        return index, end, row

    def _place(self, state, lane):
        """Return the place of a lane of a state."""
        return self._numbered.lanes_of(state)[lane][0]
