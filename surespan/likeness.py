"""Likeness: which places come to an end wherever others do."""

from surespan.grounds import END
from surespan.masks import bits_of, joined


def likeness(ground, mask):
    """Return a list with the mask of those places for each place that are below it; each place is below itself.

    If a place is below another one, then at each index of each text at which a walk from it can be brought to an end,
    one from the other place can, too. Only the places in `mask` are compared; their moves lead to none but these.
    """
    places = bits_of(mask)
    below = [1 << place for place in range(len(ground.signs))]
    for place in places:
        below[place] = mask
    columns = columns_of(ground, places)
    changed = True
    while changed:
        changed = False
        for column in columns:
            groups = grouped(column, places)
            for behaviour, members in groups.items():
                others = uncovered(groups, behaviour, below)
                for place in bits_of(members):
                    if below[place] & others:
                        below[place] = below[place] & ~others
                        changed = True
    return below


def columns_of(ground, places):
    """Return the list of all different columns: tuples with the behaviours of the places at one kind of index."""
    found = {}
    for context in range(len(ground.befores)):
        for following in range(len(ground.cell_texts) + 1):
            column = tuple([behaviour_of(ground.options(place, context, following)) for place in places])
            found[column] = True
    return list(found)


def behaviour_of(options):
    """Return the tuple of the triples (looks that must find, looks that must not, targets) of a list of moves."""
    found = {}
    for must, must_not, _, target in options:
        found[must, must_not] = found.get((must, must_not), 0) | 1 << target
    return tuple(sorted([(must, must_not, found[must, must_not]) for must, must_not in found]))


def grouped(column, places):
    """Return the dict from the behaviours of a column to the masks of the places that have them."""
    found = {}
    for place, behaviour in zip(places, column):
        found[behaviour] = found.get(behaviour, 0) | 1 << place
    return found


def uncovered(groups, behaviour, below):
    """Return the mask of the places that can do what a place with this behaviour cannot."""
    found = 0
    for other, members in groups.items():
        if not covers(behaviour, other, below):
            found = found | members
    return found


def covers(behaviour, other, below):
    """Return True if there is a move of `behaviour` for each one of `other`, as far as `below` tells, else False."""
    for must, must_not, targets in other:
        reach = 0
        for asked, asked_not, more in behaviour:
            if not asked & ~must and not asked_not & ~must_not:
                reach = reach | more
        if not reach >> END & 1 and targets & ~joined(reach, below):
            return False
    return True
