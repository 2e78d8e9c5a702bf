"""Measures of trees."""

from surespan.signsets import SignSet
from surespan.trees import children, need_plain, nodes


def size(tree):
    """Return the number of the nodes of a tree."""
    return len(nodes(tree))


def depth(tree):
    """Return the depth of a tree; it is 1 for a node without children."""
    return 1 + max([depth(child) for child in children(tree)], default=0)


def weight(tree):
    """Return the number of the sets of a tree, where a repeat counts its body several times."""
    if tree[0] == "set":
        return 1
    below = sum([weight(child) for child in children(tree)])
    if tree[0] != "repeat":
        return below
    least, most = tree[2:4]
    return below * (least + 1 if most is None else most)


def length_bounds(tree):
    """Return the pair of the least and the greatest length of the accepted texts, or None.

    The second length is None if accepted texts can have any great length.
    """
    need_plain(tree)
    return bounds_of(tree)


def bounds_of(tree):
    """Return the length bounds of a tree that is known to be plain."""
    kind = tree[0]
    if kind == "empty":
        return (0, 0)
    if kind == "set":
        return (1, 1) if tree[1] else None
    if kind == "repeat":
        return bounds_of_repeat(bounds_of(tree[1]), tree[2], tree[3])
    below = [bounds_of(child) for child in children(tree)]
    if kind == "seq":
        return bounds_of_seq(below)
    return bounds_of_alt(below)


def bounds_of_seq(below):
    """Return the bounds of a sequence of parts with these bounds."""
    if None in below:
        return None
    longest = [bounds[1] for bounds in below]
    return (sum([bounds[0] for bounds in below]), None if None in longest else sum(longest))


def bounds_of_alt(below):
    """Return the bounds of a choice between branches with these bounds."""
    found = [bounds for bounds in below if bounds is not None]
    if not found:
        return None
    longest = [bounds[1] for bounds in found]
    return (min([bounds[0] for bounds in found]), None if None in longest else max(longest))


def bounds_of_repeat(body, least, most):
    """Return the bounds of a repeat with these numbers whose body has the bounds `body`."""
    if most == 0:
        return (0, 0)
    if body is None:
        return (0, 0) if least == 0 else None
    shortest, longest = body
    if longest == 0:
        return (0, 0)
    if longest is None or most is None:
        return (least * shortest, None)
    return (least * shortest, most * longest)


def first_signs(tree):
    """Return the set text of the signs with which accepted texts begin."""
    need_plain(tree)
    return first_set(tree).members


def first_set(tree):
    """Return the set of the first signs of a tree that is known to be plain."""
    kind = tree[0]
    if kind == "set":
        return SignSet(tree[1])
    if kind == "seq":
        return first_of_seq(tree[1])
    if kind == "repeat" and tree[3] == 0:
        return SignSet()
    return union([first_set(child) for child in children(tree)])


def first_of_seq(parts):
    """Return the set of the first signs of a sequence of parts."""
    below = [bounds_of(part) for part in parts]
    # A part that accepts no text keeps the parts before it from beginning any accepted text.
    if None in below:
        return SignSet()
    found = SignSet()
    for part, bounds in zip(parts, below):
        found = found | first_set(part)
        if bounds[0] > 0:
            return found
    return found


def union(sets):
    """Return the union of a list of sets of signs."""
    found = SignSet()
    for members in sets:
        found = found | members
    return found


def needed_signs(tree):
    """Return the set text of the signs that occur in every accepted text."""
    need_plain(tree)
    return needed_set(tree).members


def needed_set(tree):
    """Return the set of the needed signs of a tree that is known to be plain."""
    kind = tree[0]
    if kind == "set":
        return needed_of_set(tree[1])
    if kind == "repeat" and tree[2] == 0:
        return SignSet()
    below = [needed_set(child) for child in children(tree)]
    if kind != "alt":
        return union(below)
    found = below[0]
    for needed in below:
        found = found & needed
    return found


def needed_of_set(signs):
    """Return the set of the signs that are in every text which the set text `signs` matches."""
    if signs == "":
        return ~SignSet()
    return SignSet(signs) if len(signs) == 1 else SignSet()
