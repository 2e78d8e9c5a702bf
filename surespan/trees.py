"""Pattern trees: their nodes, their paths and the rules that they keep."""

from surespan.alphabet import is_set_text
from surespan.errors import BadTree, NotPlain, NotRegular
from surespan.names import is_name

EDGE_KINDS = ("start", "end", "line start", "line end", "word edge", "no word edge")
SIDES = ("ahead", "behind")
MOST_ITERATIONS = 9


def children(tree):
    """Return the tuple of the children of the root."""
    kind = tree[0]
    if kind in ("seq", "alt"):
        return tree[1]
    if kind == "repeat":
        return (tree[1],)
    if kind in ("group", "look"):
        return (tree[-1],)
    return ()


def with_children(tree, below):
    """Return the root, which has children, with the tuple `below` in place of them."""
    kind = tree[0]
    if kind in ("seq", "alt"):
        return (kind, below)
    if kind == "repeat":
        return (kind,) + below + tree[2:]
    return tree[:-1] + below


def places(tree, path, in_look):
    """Return the list of the triples (path, node, whether a look is above it), in preorder.

    `path` and `in_look` are those of the root.
    """
    found = [(path, tree, in_look)]
    below_look = in_look or tree[0] == "look"
    for number, child in enumerate(children(tree)):
        found.extend(places(child, path + (number,), below_look))
    return found


def nodes(tree):
    """Return the list of all nodes in preorder."""
    return [node for path, node, in_look in places(tree, (), False)]


def paths(tree):
    """Return the list of all paths in preorder."""
    return [path for path, node, in_look in places(tree, (), False)]


def node_at(tree, path):
    """Return the node at a path."""
    node = tree
    for number in path:
        node = children(node)[number]
    return node


def with_node(tree, path, node):
    """Return the tree in which the node at the path is replaced by `node`."""
    if path == ():
        return node
    below = list(children(tree))
    below[path[0]] = with_node(below[path[0]], path[1:], node)
    return with_children(tree, tuple(below))


def check_tree(tree):
    """Raise BadTree with the path of the first node at which a rule is broken, if there is one."""
    groups = []
    for path, node, in_look in places(tree, (), False):
        if not (is_sound(node) and may_stand(node, in_look, groups)):
            raise BadTree(path)
        if node[0] == "group":
            groups.append(node[1])


def is_sound(node):
    """Return True if the node keeps the rules that do not depend on its place, otherwise False."""
    kind = node[0]
    if kind == "set":
        return is_set_text(node[1])
    if kind in ("seq", "alt"):
        return len(node[1]) >= 2
    if kind == "repeat":
        return are_bounds(node[2], node[3])
    if kind in ("group", "same"):
        return is_name(node[1])
    if kind == "look":
        return node[1] in SIDES
    if kind == "edge":
        return node[1] in EDGE_KINDS
    return True


def are_bounds(least, most):
    """Return True if these can be the numbers of a repeat, otherwise False."""
    if most is None:
        return 0 <= least <= MOST_ITERATIONS
    return 0 <= least <= most <= MOST_ITERATIONS


def may_stand(node, in_look, groups):
    """Return True if the node may stand where it does, otherwise False.

    `groups` is the list of the names of the groups before it in preorder.
    """
    kind = node[0]
    if in_look and kind in ("group", "same", "look"):
        return False
    return kind != "same" or node[1] in groups


def is_regular(tree):
    """Return True if the tree contains no `same`, otherwise False."""
    return all([node[0] != "same" for node in nodes(tree)])


def is_plain(tree):
    """Return True if the tree contains no `same`, no `look` and no `edge`, otherwise False."""
    return all([node[0] not in ("same", "look", "edge") for node in nodes(tree)])


def need_regular(tree):
    """Raise NotRegular if the tree is not regular."""
    if not is_regular(tree):
        raise NotRegular()


def need_plain(tree):
    """Raise NotPlain if the tree is not plain."""
    if not is_plain(tree):
        raise NotPlain()


def must_read(tree):
    """Return True if each way of the tree surely reads a sign; False if one might read none."""
    kind = tree[0]
    if kind == "set":
        return True
    if kind == "seq":
        return any([must_read(part) for part in tree[1]])
    if kind == "alt":
        return all([must_read(branch) for branch in tree[1]])
    if kind == "repeat":
        return tree[2] > 0 and must_read(tree[1])
    return kind == "group" and must_read(tree[2])


def group_names(tree):
    """Return the list of the names of the group nodes in preorder, each name once."""
    found = []
    for node in nodes(tree):
        if node[0] == "group" and node[1] not in found:
            found.append(node[1])
    return found
