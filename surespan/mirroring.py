"""Mirrored trees, and trees without groups."""

from surespan.trees import children, need_regular, with_children

MIRRORED = {
    "ahead": "behind", "behind": "ahead", "start": "end", "end": "start", "line start": "line end",
    "line end": "line start", "word edge": "word edge", "no word edge": "no word edge",
}


def mirror(tree):
    """Return the mirrored tree: it accepts the reversals of the texts that the tree accepts. Raises NotRegular."""
    need_regular(tree)
    return mirrored_tree(tree)


def mirrored_tree(tree):
    """Return the mirrored tree of a tree that is known to be regular."""
    kind = tree[0]
    if kind == "edge":
        return (kind, MIRRORED[tree[1]])
    below = tuple([mirrored_tree(child) for child in children(tree)])
    if not below:
        return tree
    if kind == "look":
        return (kind, MIRRORED[tree[1]], tree[2]) + below
    return with_children(tree, below[::-1] if kind == "seq" else below)


def strip_groups(tree):
    """Return the tree in which each group is replaced by its body. Raises NotRegular."""
    need_regular(tree)
    return without_groups(tree)


def without_groups(tree):
    """Return the tree without its groups, also if it is not regular."""
    if tree[0] == "group":
        return without_groups(tree[2])
    below = tuple([without_groups(child) for child in children(tree)])
    return with_children(tree, below) if below else tree
