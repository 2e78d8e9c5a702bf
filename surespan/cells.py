"""Divisions of the signs into cells."""

from surespan.alphabet import SIGNS


def cells(sets):
    """Return the division of a list of set texts: the list of its cells."""
    found = {}
    for sign in SIGNS:
        marks = "".join(["1" if sign in members else "0" for members in sets])
        found[marks] = found.get(marks, "") + sign
    return list(found.values())


def cell_of(division, sign):
    """Return the number of the cell that contains the sign."""
    return [sign in cell for cell in division].index(True)


def least_signs(division):
    """Return the text of the least signs of the cells, in their order."""
    return "".join([cell[0] for cell in division])
