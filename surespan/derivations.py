"""Derivations: nested tuples that describe one way of a tree each."""

from surespan.meaning import Search


def derivations(tree, text, index=0):
    """Yield the derivations of all ways from the index, in the order of the ways."""
    search = Search(tree, text)
    search.begin(index, ())
    way = search.next_way()
    while way is not None:
        yield derivation_of(tree, way[2])
        way = search.next_way()


def derive(tree, text, index=0, *, whole=False):
    """Return the derivation of the first way from the index, or of the first whole way, or None."""
    search = Search(tree, text, whole=whole)
    search.begin(index, ())
    way = search.next_way()
    return None if way is None else derivation_of(tree, way[2])


def derivation_of(tree, trail):
    """Return the derivation of the way whose choices the trail of a search holds."""
    choices = []
    while trail:
        last, trail = trail
        choices.append(last)
    return describe(tree, choices)


def describe(tree, choices):
    """Return the derivation of a way of the tree; its choices are taken from the end of the list."""
    kind = tree[0]
    if kind == "seq":
        return (kind, tuple([describe(part, choices) for part in tree[1]]))
    if kind == "alt":
        number = choices.pop()
        return (kind, number, describe(tree[1][number], choices))
    if kind == "repeat":
        return (kind, tuple(describe_iterations(tree, choices)))
    if kind == "group":
        return (kind, describe(tree[2], choices))
    return (kind,)


def describe_iterations(tree, choices):
    """Return the list of the derivations of the iterations of a repeat."""
    body, least, most, lazy = tree[1:]
    again = 1 if lazy else 0
    found = []
    while len(found) < least or (len(found) != most and choices.pop() == again):
        found.append(describe(body, choices))
    return found
