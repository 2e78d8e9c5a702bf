"""Powersets: all walks through a chart at once, without their order, as the states of a machine."""

from surespan.charts import chart_of
from surespan.conditions import NOTHING, Conditions
from surespan.grounds import BEGINNING, END, Ground
from surespan.likeness import likeness
from surespan.masks import bits_of, joined


class Powerset:
    """The texts that a regular tree accepts, read sign by sign; raises NotRegular.

    A state is a triple (context, behind, groups): the first two items are what `Ground.view` needs. `groups` is a tuple
    of triples (barred, wanted, mask): under the condition (barred, wanted), walks stand at the places in the mask.
    """

    def __init__(self, tree):
        self.ground = Ground([chart_of(tree)], whole=True)
        self.conditions = Conditions(self.ground)
        self.below = likeness(self.ground, (1 << self.ground.look_places) - 2)
        self.first_state = (BEGINNING, 0, self.reduced({NOTHING: 1 << self.ground.firsts[0]}))

    def after(self, state, cell):
        """Return the state behind one more sign, which is in the cell."""
        context, behind, groups = state
        view = self.ground.view(context, behind, cell)
        found = {}
        for barred, wanted, mask in groups:
            condition = self.conditions.after((barred, wanted), view)
            if condition is not None:
                self.gather(found, condition, mask, view)
        if not found:
            return BEGINNING, 0, ()
        return self.ground.contexts[cell], self.ground.behind_after(context, behind, cell), self.reduced(found)

    def gather(self, found, condition, mask, view):
        """Add the targets of the places of a mask to the dict `found` from conditions to masks."""
        for place in bits_of(mask):
            for must, must_not, targets in view.bundles(place):
                after = self.conditions.with_looks(condition, must, must_not, view)
                if after is not None:
                    found[after] = found.get(after, 0) | targets

    def reduced(self, found):
        """Return the groups of a dict from conditions to masks.

        The masks get all places that make no difference in them, so that states with the same future look alike more
        often. A group that makes no difference itself is left out.
        """
        closed = [
            (condition, self.conditions.needs(condition), joined(mask, self.below)) for condition, mask in found.items()
        ]
        groups = []
        for condition, _, mask in closed:
            missing = ~self.conditions.grants(condition)
            others = 0
            for other, needs, more in closed:
                if other != condition and not needs & missing:
                    others = others | more
            if mask & ~others:
                groups.append(condition + (mask | others,))
        return tuple(sorted(groups))

    def is_accepting(self, state):
        """Return True if the text may end in the state, otherwise False."""
        context, behind, groups = state
        view = self.ground.view_of_end(context, behind)
        for barred, wanted, mask in groups:
            if view.reach_all(mask, 0) >> END & 1 and self.conditions.after((barred, wanted), view) is not None:
                return True
        return False
