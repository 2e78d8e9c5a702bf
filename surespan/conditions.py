"""Conditions: what the looks ahead that have begun on the way to a place ask of the rest of the text.

A condition is a pair (barred, wanted). `barred` is a mask of places of looks: a walk from none of them may come to an
end. `wanted` is a tuple of such masks: from each of them a walk from at least one place must come to an end.
"""

from surespan.grounds import END
from surespan.likeness import likeness
from surespan.masks import bits_of, joined

# The condition that asks for nothing.
NOTHING = (0, ())


class Conditions:
    """The conditions on a ground."""

    def __init__(self, ground):
        mask = (1 << len(ground.signs)) - (1 << ground.look_places)
        self.below = likeness(ground, mask) if mask else []

    def normal(self, barred, wanted):
        """Return a condition that asks for the same as these masks, or None if no text can fulfil it.

        The masks get all places that make no difference in them, so that equal conditions look alike more often.
        """
        barred = joined(barred, self.below)
        closed = sorted(set([joined(mask, self.below) | barred for mask in wanted]))
        if barred in closed:
            return None
        # What a smaller mask wants, a larger one wants, too.
        least = [mask for mask in closed if not [other for other in closed if other != mask and not other & ~mask]]
        return barred, tuple(least)

    def after(self, condition, view):
        """Return what a condition asks for behind the index of a view, or None if it fails there."""
        if condition == NOTHING:
            return condition
        barred, wanted = condition
        after_barred = view.reach_all(barred, 0)
        if after_barred >> END & 1:
            return None
        after_wanted = []
        for mask in wanted:
            after_mask = view.reach_all(mask, 0)
            if not after_mask >> END & 1:
                after_wanted.append(after_mask)
        return self.normal(after_barred, after_wanted)

    def with_looks(self, condition, must, must_not, view):
        """Return the condition that also asks for what open looks must find and must not find, or None.

        The condition is one behind the index of the view, and the looks begin at the index.
        """
        if not must and not must_not:
            return condition
        barred, wanted = condition
        more_wanted = [view.begun[look] for look in bits_of(must)]
        return self.normal(barred | joined(must_not, view.begun), [*wanted, *more_wanted])


def implies(condition, other):
    """Return True if each text that fulfils the condition surely fulfils the other one, too, otherwise False."""
    barred, wanted = condition
    other_barred, other_wanted = other
    if other_barred & ~barred:
        return False
    for mask in other_wanted:
        if not [inner for inner in wanted if not inner & ~(mask | barred)]:
            return False
    return True
