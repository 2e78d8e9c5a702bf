"""Following derivations, and comparing them."""

from surespan.meaning import edge_holds, look_findings
from surespan.rows import copy_end, with_span
from surespan.trees import children, with_children


def replay(tree, text, index, derivation):
    """Return the outcome of the way that the derivation describes, from the index, or None if there is none."""
    return follow(with_findings(tree, text), text, index, (), derivation)


def with_findings(tree, text):
    """Return the tree with what each look finds on the text in place of the side and the body of the look."""
    if tree[0] == "look":
        return ("look", look_findings(tree[1], tree[3], text), tree[2])
    if children(tree) == ():
        return tree
    return with_children(tree, tuple([with_findings(child, text) for child in children(tree)]))


def follow(tree, text, index, row, derivation):
    """Return the outcome of the way of the tree that the derivation describes, or None if there is none.

    `tree` is what `with_findings` returns.
    """
    kind = tree[0]
    if derivation[0] != kind:
        return None
    if kind == "seq":
        return follow_parts(tree[1], text, index, row, derivation[1])
    if kind == "alt":
        number = derivation[1]
        if not 0 <= number < len(tree[1]):
            return None
        return follow(tree[1][number], text, index, row, derivation[2])
    if kind == "repeat":
        return follow_iterations(tree, text, index, row, derivation[1])
    if kind == "group":
        way = follow(tree[2], text, index, row, derivation[1])
        return None if way is None else (way[0], with_span(way[1], tree[1], index, way[0]))
    end = end_of_leaf(tree, text, index, row)
    return None if end is None else (end, row)


def follow_parts(parts, text, index, row, below):
    """Return the outcome of the way through the parts that the derivations `below` describe, or None."""
    if len(parts) != len(below):
        return None
    way = (index, row)
    for part, derivation in zip(parts, below):
        way = follow(part, text, way[0], way[1], derivation)
        if way is None:
            return None
    return way


def follow_iterations(tree, text, index, row, below):
    """Return the outcome of the way of a repeat whose iterations the derivations `below` describe, or None."""
    body, least, most = tree[1:4]
    if len(below) < least or (most is not None and len(below) > most):
        return None
    way = (index, row)
    for number, derivation in enumerate(below):
        before = way[0]
        way = follow(body, text, before, way[1], derivation)
        if way is None or (number >= least and way[0] == before):
            return None
    return way


def end_of_leaf(tree, text, index, row):
    """Return the end of the way of a node without children or of a look, or None if it has none."""
    kind = tree[0]
    if kind == "set":
        return index + 1 if index < len(text) and text[index] in tree[1] else None
    if kind == "same":
        return copy_end(row, text, tree[1], index)
    if kind == "edge" and not edge_holds(tree[1], text, index):
        return None
    if kind == "look" and tree[1][index] != tree[2]:
        return None
    return index


def earlier(tree, first, second):
    """Return True if the derivation `first` comes before the derivation `second`, otherwise False."""
    kind = tree[0]
    if kind == "seq":
        return earlier_parts(tree[1], first[1], second[1])
    if kind == "alt" and first[1] == second[1]:
        return earlier(tree[1][first[1]], first[2], second[2])
    if kind == "alt":
        return first[1] < second[1]
    if kind == "repeat":
        return earlier_iterations(tree, first[1], second[1])
    return kind == "group" and earlier(tree[2], first[1], second[1])


def earlier_parts(parts, first, second):
    """Return True if the first part at which the ways differ comes before the other way's part."""
    for part, one, other in zip(parts, first, second):
        if one != other:
            return earlier(part, one, other)
    return False


def earlier_iterations(tree, first, second):
    """Return True if the iterations `first` of a repeat come before the iterations `second`, otherwise False."""
    for one, other in zip(first, second):
        if one != other:
            return earlier(tree[1], one, other)
    # One of them ends where the other one has one more iteration.
    return len(first) < len(second) if tree[4] else len(first) > len(second)
