"""Scans: the answers on a text, one behind the other."""

from surespan.answers import Answer
from surespan.meaning import Search, first_answer


def find(tree, text, start=0):
    """Return the first answer from the start index as an `Answer`, or None."""
    found = first_answer(tree, text, start)
    return None if found is None else Answer(text, *found)


def scan(tree, text):
    """Return the scan of the text as a list of triples (start, end, row)."""
    return list(answers_from(tree, text, 0, None))


def answers_from(tree, text, start, limit):
    """Yield the answers (start, end, row) of a scan that goes on at the start index, the first `limit` ones or all."""
    # One search for all of them keeps what it has found out about states that lead to no way.
    search = Search(tree, text)
    index = start
    count = 0
    while index <= len(text) and count != limit:
        way = search.first_way_from(index)
        if way is None:
            index = index + 1
        else:
            yield (index,) + way
            index = next_start(index, way[0])
            count = count + 1


def next_start(start, end):
    """Return the start index of the search for the answer behind the one with this span."""
    return end if end > start else end + 1
