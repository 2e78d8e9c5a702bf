"""Residuals: what is left of a tree after some signs of a text."""

from surespan.flows import Flow
from surespan.loads import load_after, loads_behind, new_load
from surespan.trees import need_regular


class Residual:
    """What is left of a tree; `mode` is "search", "here" or "whole". Raises NotRegular."""

    def __init__(self, tree, *, mode="search"):
        need_regular(tree)
        self._tree = tree
        self._mode = mode
        # The flow is made when it is needed first; the residuals that follow share it.
        self._flow = None
        self._state = None
        # For each lane of the state what its walk brings along.
        self._loads = [new_load(0)]
        self._length = 0

    def after(self, sign):
        """Return the residual after one more sign."""
        self._prepare()
        later = Residual(self._tree, mode=self._mode)
        later._flow = self._flow
        later._length = self._length + 1
        later._state, origins = self._flow.after(self._state, self._flow.cell_numbers[sign])
        later._loads = loads_behind(self._loads, later._state[2], origins, self._length)
        return later

    def answer(self):
        """Return the result (start, end, row) for the signs read so far, or None."""
        self._prepare()
        found = self._flow.result(self._state)
        return None if found is None else load_after(self._loads, found, self._length, True)[:3]

    @property
    def length(self):
        """The number of signs read so far."""
        return self._length

    def _prepare(self):
        """Make the flow if this has not been done."""
        if self._flow is None:
            self._flow = Flow(self._tree, self._mode)
            self._state = self._flow.first_state


def residual_answer(tree, text, *, mode="search"):
    """Return the result (start, end, row) for a text, or None."""
    residual = Residual(tree, mode=mode)
    for sign in text:
        residual = residual.after(sign)
    return residual.answer()
