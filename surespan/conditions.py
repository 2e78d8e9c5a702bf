"""Conditions: what the looks ahead that have begun on the way to a place ask of the rest of the text.

A condition is a pair (barred, wanted). `barred` is a mask of places of looks: a walk from none of them may come to an
end. `wanted` is a tuple of such masks: from each of them a walk from at least one place must come to an end.
"""

from surespan.grounds import END
from surespan.likeness import likeness
from surespan.masks import bits_of, joined

# The condition that asks for nothing.
NOTHING = (0, ())


class Conditions:
    """The conditions on a ground."""

    def __init__(self, ground):
        self.width = len(ground.signs)
        mask = (1 << self.width) - (1 << ground.look_places) - sum(ground.behind_masks)
        self.below = likeness(ground, mask) if mask else []
        # The masks of which a place is wanted have numbers; for each one the numbers of those that contain it.
        self.numbers = {}
        self.containing = []

    def normal(self, barred, wanted):
        """Return a condition that asks for the same as these masks, or None if no text can fulfil it.

        The masks get all places that make no difference in them, so that equal conditions look alike more often.
        """
        barred = joined(barred, self.below)
        closed = sorted(set([joined(mask, self.below) | barred for mask in wanted]))
        if barred in closed:
            return None
        # What a smaller mask wants, a larger one wants, too.
        least = [mask for mask in closed if not [other for other in closed if other != mask and not other & ~mask]]
        return barred, tuple(least)

    def after(self, condition, view):
        """Return what a condition asks for behind the index of a view, or None if it fails there."""
        if condition == NOTHING:
            return condition
        barred, wanted = condition
        after_barred = view.reach_all(barred, 0)
        if after_barred >> END & 1:
            return None
        after_wanted = []
        for mask in wanted:
            after_mask = view.reach_all(mask, 0)
            if not after_mask >> END & 1:
                after_wanted.append(after_mask)
        return self.normal(after_barred, after_wanted)

    def with_looks(self, condition, must, must_not, view):
        """Return the condition that also asks for what open looks must find and must not find, or None.

        The condition is one behind the index of the view, and the looks begin at the index.
        """
        if not must and not must_not:
            return condition
        barred, wanted = condition
        more_wanted = [view.begun[look] for look in bits_of(must)]
        return self.normal(barred | joined(must_not, view.begun), [*wanted, *more_wanted])

    # A condition implies another one if each text that fulfils it surely fulfils the other one, too. So it is if the
    # mask of what the other one needs has nothing in it that is not in the mask of what this one grants.

    def needs(self, condition):
        """Return the mask of what must be granted so that the condition is implied."""
        barred, wanted = condition
        found = 0
        for mask in wanted:
            found = found | 1 << self.number_of_wanted(mask & ~barred)
        return found << self.width | barred

    def grants(self, condition):
        """Return the mask of all that the condition grants."""
        barred, wanted = condition
        found = 0
        for mask in wanted:
            found = found | self.containing[self.number_of_wanted(mask & ~barred)]
        return found << self.width | barred

    def number_of_wanted(self, mask):
        """Return the number of a mask of which a place is wanted; number it if it is new."""
        if mask not in self.numbers:
            number = len(self.numbers)
            found = 1 << number
            for other, other_number in self.numbers.items():
                if not mask & ~other:
                    found = found | 1 << other_number
                if not other & ~mask:
                    self.containing[other_number] = self.containing[other_number] | 1 << number
            self.numbers[mask] = number
            self.containing.append(found)
        return self.numbers[mask]
