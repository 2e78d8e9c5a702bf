"""Simplified trees with the same outcomes."""

from surespan.signsets import SignSet
from surespan.trees import need_regular, node_at, paths, with_node

EMPTY = ("empty",)
# The tree that matches nothing.
NOTHING = ("set", "")


def simplify(tree):
    """Return the simplified tree of a regular tree. Raises NotRegular."""
    return simplify_steps(tree)[-1]


def simplify_steps(tree):
    """Return the list of the trees from the given one to the simplified one. Raises NotRegular."""
    need_regular(tree)
    found = [tree]
    simpler = simpler_tree(tree)
    while simpler is not None:
        found.append(simpler)
        simpler = simpler_tree(simpler)
    return found


def simpler_tree(tree):
    """Return the tree in which one node is replaced by a simpler one, or None if no node can be."""
    # In reverse preorder a node comes behind all that is below it.
    for path in paths(tree)[::-1]:
        simpler = simpler_node(node_at(tree, path))
        if simpler is not None:
            return with_node(tree, path, simpler)
    return None


# Each replacement leaves fewer set nodes that are not empty, or as many of them and fewer nodes. It adds at most two
# nodes for each such set node that it leaves out.

def simpler_node(node):
    """Return a simpler tree with the same outcomes for a node below which nothing can be replaced, or None."""
    kind = node[0]
    if kind == "seq":
        return simpler_seq(node[1])
    if kind == "alt":
        return simpler_alt(node[1])
    if kind == "repeat":
        return simpler_repeat(node)
    if kind == "group" and node[2] == NOTHING:
        return NOTHING
    if kind == "look" and node[3] in (EMPTY, NOTHING):
        # The look finds the empty text everywhere, and nothing nowhere.
        return EMPTY if (node[3] == EMPTY) == node[2] else NOTHING
    return None


def simpler_seq(parts):
    """Return a simpler tree for a sequence of parts, or None."""
    if NOTHING in parts:
        return NOTHING
    kept = []
    for part in parts:
        if part[0] == "seq":
            kept.extend(part[1])
        elif part != EMPTY and not (kept and part == kept[-1] and part[0] in ("edge", "look")):
            kept.append(part)
    return None if kept == list(parts) else seq_of(kept)


def seq_of(parts):
    """Return the tree of a list of trees, one after another."""
    if not parts:
        return EMPTY
    return parts[0] if len(parts) == 1 else ("seq", tuple(parts))


def simpler_alt(branches):
    """Return a simpler tree for a choice between branches, or None."""
    kept = []
    for branch in branches:
        for inner in branch[1] if branch[0] == "alt" else (branch,):
            if inner != NOTHING and inner not in kept:
                kept.append(inner)
    if kept == list(branches):
        kept = with_joined_neighbours(kept)
    if kept == list(branches):
        return None
    if not kept:
        return NOTHING
    return kept[0] if len(kept) == 1 else ("alt", tuple(kept))


def with_joined_neighbours(branches):
    """Return the list of the branches in which the first two neighbours are one that can be, if there are such."""
    for number, (branch, other) in enumerate(zip(branches, branches[1:])):
        joined = None
        if branch[0] == "set" and other[0] == "set":
            joined = ("set", (SignSet(branch[1]) | SignSet(other[1])).members)
        elif parts_of(branch)[0] == parts_of(other)[0] and parts_of(branch)[0][0] == "set":
            rests = (seq_of(parts_of(branch)[1:]), seq_of(parts_of(other)[1:]))
            joined = ("seq", (parts_of(branch)[0], ("alt", rests)))
        if joined is not None:
            return [*branches[:number], joined, *branches[number + 2:]]
    return branches


def parts_of(tree):
    """Return the tuple of the trees that stand one after another in a tree."""
    return tree[1] if tree[0] == "seq" else (tree,)


def simpler_repeat(node):
    """Return a simpler tree for a repeat, or None."""
    body, least, most = node[1:4]
    if most == 0:
        return EMPTY
    if (least, most) == (1, 1):
        return body
    if body[0] in ("empty", "edge", "look") or body == NOTHING:
        # An iteration that must move cannot be one of such a body.
        return body if least > 0 else EMPTY
    return None
