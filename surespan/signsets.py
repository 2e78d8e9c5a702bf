"""Sets of signs."""

from surespan.alphabet import SIGNS, rank


class SignSet:
    """An immutable set of signs."""

    def __init__(self, signs=""):
        self._members = "".join(sorted(set(signs)))

    @staticmethod
    def between(first, last):
        """Return the set of all signs from `first` to `last`, both included."""
        return SignSet(SIGNS[rank(first):rank(last) + 1])

    @property
    def members(self):
        """The set text of the set."""
        return self._members

    @property
    def least(self):
        """The least sign, or None for the empty set."""
        return self._members[0] if self._members else None

    @property
    def ranges(self):
        """The list of the pairs (first sign, last sign) of the runs, in ascending order."""
        found = []
        in_run = False
        for sign in SIGNS:
            if sign not in self._members:
                in_run = False
            elif in_run:
                found[-1] = (found[-1][0], sign)
            else:
                found.append((sign, sign))
                in_run = True
        return found

    def within(self, other):
        """Return True if every sign of this set is in the other one, otherwise False."""
        return all([sign in other for sign in self._members])

    def __or__(self, other):
        return SignSet(self._members + other._members)

    def __and__(self, other):
        return SignSet("".join([sign for sign in self._members if sign in other]))

    def __sub__(self, other):
        return SignSet("".join([sign for sign in self._members if sign not in other]))

    def __invert__(self):
        return SignSet("".join([sign for sign in SIGNS if sign not in self]))

    def __contains__(self, sign):
        # A text of several signs, or of none, is no sign, though it may be a part of the members.
        return len(sign) == 1 and sign in self._members

    def __len__(self):
        return len(self._members)

    def __iter__(self):
        return iter(self._members)

    def __eq__(self, other):
        return isinstance(other, SignSet) and self._members == other._members
