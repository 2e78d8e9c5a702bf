"""The tree that is left of a plain tree after a sign."""

from surespan.measures import bounds_of
from surespan.mirroring import without_groups
from surespan.trees import need_plain

# Stands for the ways that read nothing, among the fronts of a tree.
STILL = None


def tree_after(tree, sign):
    """Return the plain tree without groups that is left after the sign. Raises NotPlain."""
    need_plain(tree)
    rests = [tree_of_parts(front) for front in fronts(without_groups(tree), sign) if front != STILL]
    if not rests:
        return ("set", "")
    return rests[0] if len(rests) == 1 else ("alt", tuple(rests))


# A front of a tree stands for those of its ways that read a sign first and go on in one fashion. It is the tuple of the
# trees that follow the sign, one after another. The fronts of a tree are a list in the order of the ways. `STILL` is
# among them if there are ways that read nothing. As only the first way with an end counts, no front is in a list twice.

def fronts(tree, sign):
    """Return the list of the fronts of a tree without groups for a sign."""
    kind = tree[0]
    if kind == "set":
        return [()] if sign in tree[1] else []
    if kind == "alt":
        return distinct([front for branch in tree[1] for front in fronts(branch, sign)])
    if kind == "repeat":
        return fronts_of_repeat(tree, sign)
    return fronts_of_parts(parts_of(tree), sign)


def fronts_of_parts(parts, sign):
    """Return the list of the fronts of the trees of a tuple, one after another."""
    if not parts:
        return [STILL]
    return fronts_before(fronts(parts[0], sign), parts[1:], sign)


def fronts_of_repeat(tree, sign):
    """Return the list of the fronts of a repeat."""
    body, least, most, lazy = tree[1:]
    if most == 0:
        return [STILL]
    further = ("repeat", body, max(least - 1, 0), None if most is None else most - 1, lazy)
    rest = () if most == 1 else (further,)
    firsts = fronts(body, sign)
    if least > 0:
        return fronts_before(firsts, rest, sign)
    begun = [front for front in firsts if front != STILL]
    moving = fronts_before(begun, rest, sign)
    return [STILL, *moving] if lazy else [*moving, STILL]


def fronts_before(firsts, rest, sign):
    """Return the list of the fronts of a first tree, with these fronts, and the trees of the tuple `rest` behind it."""
    found = []
    for front in firsts:
        if front == STILL:
            found.extend(fronts_of_parts(rest, sign))
        elif all([bounds_of(part) is not None for part in rest]):
            found.append(front + flattened(rest))
    return distinct(found)


def flattened(parts):
    """Return the tuple of the trees in which no tree is a `seq` or an `empty`."""
    return tuple([inner for part in parts for inner in parts_of(part)])


def parts_of(tree):
    """Return the tuple of the trees that stand one after another in a tree; none is a `seq` or an `empty`."""
    if tree[0] == "empty":
        return ()
    return flattened(tree[1]) if tree[0] == "seq" else (tree,)


def tree_of_parts(parts):
    """Return the tree of these trees, one after another."""
    if not parts:
        return ("empty",)
    return parts[0] if len(parts) == 1 else ("seq", parts)


def distinct(found):
    """Return the list of the fronts, each at its first place only."""
    kept = []
    for front in found:
        if front not in kept:
            kept.append(front)
    return kept
