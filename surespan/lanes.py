"""Lanes: all walks through a chart at once, side by side."""

from surespan.charts import STOP, chart_of
from surespan.looktables import Passage
from surespan.rows import with_marks


def lane_lists(tree, text, index=0):
    """Return the list of the tuples of the places in which begun walks from the index stand, index by index."""
    passage = Passage(chart_of(tree), text)
    lanes = (0,)
    found = []
    at = index
    while lanes:
        found.append(lanes)
        moves = passage.open_moves(at)
        readers = passage.readers(at)
        reached = {
            target: True for place in lanes for _, target in moves[place] if target != STOP and readers >> target & 1
        }
        lanes = tuple(reached)
        at = at + 1
    return found


def lane_way(tree, text, index=0, *, whole=False):
    """Return the outcome of the first way from the index, or of the first whole way, or None, found with lanes."""
    answer = answer_of_lanes(chart_of(tree), text, index, whole, False)
    return None if answer is None else answer[1:]


def lane_answer(tree, text, start=0):
    """Return the first answer (start, end, row) from the start index, or None, found with lanes."""
    return answer_of_lanes(chart_of(tree), text, start, False, True)


def answer_of_lanes(chart, text, index, whole, anywhere):
    """Return the answer (start, end, row) of the first walk from the index, or None.

    If `whole` is True, walks end only at the end of the text. If `anywhere` is True, walks from later indexes count,
    too, behind all walks from earlier ones.
    """
    passage = Passage(chart, text)
    lanes = {0: (index, (), {})}
    best = None
    for at in range(index, len(text) + 1):
        if anywhere and best is None:
            lanes[0] = (at, (), {})
        lanes, ended = lanes_after(passage, lanes, at, not whole or at == len(text))
        if ended is not None:
            best = ended
        if not lanes and (best is not None or not anywhere):
            break
    return best


def lanes_after(passage, lanes, at, may_end):
    """Return the lanes behind the sign at the index, and the answer of the first walk that ends at it, or None.

    `lanes` is a dict from places to triples (start, row, slots), in the order of the lanes. If a walk ends, the lanes
    behind it are left out.
    """
    moves = passage.open_moves(at)
    readers = passage.readers(at)
    after = {}
    for place, (start, row, slots) in lanes.items():
        for marks, target in moves[place]:
            if target == STOP and may_end:
                return after, (start, at, with_marks(row, slots, marks, at)[0])
            if target != STOP and target not in after and readers >> target & 1:
                after[target] = (start,) + with_marks(row, slots, marks, at)
    return after, None
