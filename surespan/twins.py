"""Twins: places of a ground from which all walks go on alike."""

from surespan.grounds import END


def twins_of(ground):
    """Return a list with the first place for each place that has the same moves; the end has no twin.

    Moves are the same if they have the same tests and marks, and targets that read the same signs and are twins. So
    twins may read different signs themselves.
    """
    found = [END] + [1] * (len(ground.moves) - 1)
    count = 0
    while count < len(set(found)):
        count = len(set(found))
        kinds = [moves_with(ground, moves, found) for moves in ground.moves]
        found = [END if place == END else kinds.index(kind, 1) for place, kind in enumerate(kinds)]
    return found


def moves_with(ground, moves, twins):
    """Return the list of moves in which each target is told by the signs that it reads and by its twin."""
    return [
        (kinds, must, must_not, marks, ground.signs[target], twins[target])
        for kinds, must, must_not, marks, target in moves
    ]
