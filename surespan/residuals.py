"""Residuals: what is left of a tree after some signs of a text."""

from surespan.flowstates import FlowStates
from surespan.loads import load_after, loads_behind, new_load
from surespan.trees import need_regular


class Residual:
    """What is left of a tree; `mode` is "search", "here" or "whole". Raises NotRegular."""

    def __init__(self, tree, *, mode="search"):
        need_regular(tree)
        self._tree = tree
        self._mode = mode
        # The states of the flow are made when they are needed first; the residuals that follow share them.
        self._states = None
        self._number = 0
        # For each lane of the state what its walk brings along.
        self._loads = [new_load(0)]
        self._length = 0

    def after(self, sign):
        """Return the residual after one more sign."""
        self._prepare()
        cell = self._states.flow.cell_numbers[sign]
        later = Residual(self._tree, mode=self._mode)
        later._states = self._states
        later._number, origins = self._states.step(self._number, cell)
        later._loads = loads_behind(self._loads, self._states.lanes_of(later._number), origins, self._length)
        later._length = self._length + 1
        return later

    def answer(self):
        """Return the result (start, end, row) for the signs read so far, or None."""
        self._prepare()
        found = self._states.result(self._number)
        return None if found is None else load_after(self._loads, found, self._length, True)[:3]

    @property
    def length(self):
        """The number of signs read so far."""
        return self._length

    def _prepare(self):
        """Make the states of the flow if this has not been done."""
        if self._states is None:
            self._states = FlowStates(self._tree, self._mode)
            self._number = self._states.number_of(self._states.flow.first_state)


def residual_answer(tree, text, *, mode="search"):
    """Return the result (start, end, row) for a text, or None."""
    residual = Residual(tree, mode=mode)
    for sign in text:
        residual = residual.after(sign)
    return residual.answer()
