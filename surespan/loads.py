"""Loads: what the walks of a flow bring along.

A load is a tuple (start, end, row, slots). The end is None as long as the walk goes on.
"""

from surespan.flows import NEW
from surespan.grounds import END
from surespan.rows import with_marks


def new_load(start):
    """Return the load of a walk that begins at an index."""
    return start, None, (), {}


def loads_behind(loads, lanes, origins, index):
    """Return the list of the loads of the lanes behind the sign at the index.

    `loads` are those of the lanes before the sign; the origins tell how they lead to the lanes behind it.
    """
    return [
        new_load(index + 1) if origin == NEW else load_after(loads, origin, index, lane[0] == END)
        for lane, origin in zip(lanes, origins)
    ]


def load_after(loads, origin, index, ends):
    """Return the load of a walk that goes on as an origin tells, and ends at the index if it has not ended before."""
    number, marks = origin
    start, end, row, slots = loads[number]
    row, slots = with_marks(row, slots, marks, index)
    return start, index if ends and end is None else end, row, slots
