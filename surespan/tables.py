"""Tables: the results of a tree on texts, with one look-up per sign."""

from surespan.errors import TooManyStates
from surespan.flows import NEW, Flow
from surespan.grounds import END
from surespan.rows import with_marks


class Table:
    """Reads texts sign by sign; `mode` is "search", "here" or "whole". Raises NotRegular."""

    def __init__(self, tree, *, mode="search"):
        self._flow = Flow(tree, mode)
        # The states of the flow by their numbers, and their numbers.
        self._met = [self._flow.first_state]
        self._numbers = {self._flow.first_state: 0}
        # For each state and cell the number of the state behind it, and the origins of the lanes there.
        self._targets = {}
        self._origins = {}
        self._results = {}

    @property
    def states(self):
        """The number of the states met so far."""
        return len(self._met)

    @property
    def division(self):
        """The list of the cells."""
        return list(self._flow.ground.cell_texts)

    def answer(self, text):
        """Return the result (start, end, row) for a text, or None."""
        path = [0]
        for sign in text:
            path.append(self._target(path[-1], self._flow.cell_numbers[sign]))
        found = self._result(path[-1])
        if found is None:
            return None
        return self._trace(text, path, found)

    def state_after(self, text):
        """Return the number of the state after a text."""
        state = 0
        for sign in text:
            state = self.follow(state, sign)
        return state

    def follow(self, state, sign):
        """Return the number of the state that one more sign leads to."""
        return self._target(state, self._flow.cell_numbers[sign])

    def complete(self, limit):
        """Meet all states that texts can lead to; return their number, or raise TooManyStates(limit)."""
        state = 0
        while state < len(self._met):
            for cell in range(len(self._flow.ground.cell_texts)):
                if len(self._met) > limit:
                    raise TooManyStates(limit)
                self._target(state, cell)
            state = state + 1
        return len(self._met)

    def _target(self, state, cell):
        """Return the number of the state behind a cell; number it if it is new."""
        if (state, cell) not in self._targets:
            found = self._flow.after(self._met[state], cell)[0]
            if found not in self._numbers:
                self._numbers[found] = len(self._met)
                self._met.append(found)
            self._targets[state, cell] = self._numbers[found]
        return self._targets[state, cell]

    def _origins_behind(self, state, cell):
        """Return the origins of the lanes of the state behind a cell."""
        # Only a walk back through a text needs them, so that `complete` need not keep them.
        if (state, cell) not in self._origins:
            self._origins[state, cell] = self._flow.after(self._met[state], cell)[1]
        return self._origins[state, cell]

    def _result(self, state):
        """Return what `Flow.result` says of a state."""
        if state not in self._results:
            self._results[state] = self._flow.result(self._met[state])
        return self._results[state]

    def _trace(self, text, path, found):
        """Return the answer of the walk that ends in the last state of a path, as `Flow.result` tells."""
        lane, marks = found
        told = [(len(text), marks)]
        index = len(text)
        end = index if self._place(path[index], lane) != END else None
        while index > 0:
            origin = self._origins_behind(path[index - 1], self._flow.cell_numbers[text[index - 1]])[lane]
            if origin == NEW:
                break
            index = index - 1
            lane, marks = origin
            told.append((index, marks))
            # The last step back from the end leads to the index where the walk has ended.
            if end is None and self._place(path[index], lane) != END:
                end = index
        row, slots = (), {}
        for at, marks in told[::-1]:
            row, slots = with_marks(row, slots, marks, at)
        return index, end, row

    def _place(self, state, lane):
        """Return the place of a lane of a state."""
        return self._met[state][2][lane][0]
