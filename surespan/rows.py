"""Capture rows: which names are set, and to which spans."""


def with_span(row, name, start, end):
    """Return the row in which the name is set to the span from `start` to `end`."""
    others = [triple for triple in row if triple[0] != name]
    return tuple(sorted([*others, (name, start, end)]))


def captured_text(row, text, name):
    """Return the text of the span to which the row sets the name, or None if it is not set."""
    for known, start, end in row:
        if known == name:
            return text[start:end]
    return None


def copy_end(row, text, name, index):
    """Return the index behind the copy of the captured text that stands at the index, or None."""
    wanted = captured_text(row, text, name)
    if wanted is None or not text.startswith(wanted, index):
        return None
    return index + len(wanted)


def with_marks(row, slots, marks, index):
    """Return the row and the slots, a dict with an index for each slot, after these marks at the index."""
    for mark in marks:
        if mark[0] == "store":
            slots = {**slots, mark[1]: index}
        else:
            row = with_span(row, mark[2], slots[mark[1]], index)
    return row, slots
