"""Pieces of texts between separators."""

from surespan.scanning import answers_from


def split_text(tree, text, *, limit=None, keep=False):
    """Return the list of the pieces of the text between its first `limit` separators, or all of them.

    With `keep`, the text of each separator stands between the two pieces.
    """
    found = []
    behind = 0
    count = 0
    for start, end, _ in answers_from(tree, text, 0, None):
        if count == limit:
            break
        if end > start:
            found.append(text[behind:start])
            if keep:
                found.append(text[start:end])
            behind = end
            count = count + 1
    return [*found, text[behind:]]
