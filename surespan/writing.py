"""Writing of pattern texts."""

from surespan.notation import BRACKET_SPECIALS, SPECIAL_SIGNS, write_sign
from surespan.signsets import SignSet

# The kinds of the nodes that stand in parentheses as a branch, as an item and as the body of a repeat.
BRANCH_KINDS = ("alt",)
ITEM_KINDS = ("alt", "empty", "seq")
BODY_KINDS = ("alt", "empty", "seq", "repeat")
# A shorter run of neighbouring signs is not written as a range.
SHORTEST_RANGE = 3


def write_set(signs):
    """Return the written form of a set node with the set text `signs`."""
    members = SignSet(signs)
    others = ~members
    if len(members) == 1:
        return write_sign(signs, SPECIAL_SIGNS)
    if others.members == "\n":
        return "."
    direct = "[" + write_members(members) + "]"
    negated = "[^" + write_members(others) + "]"
    return negated if len(negated) < len(direct) else direct


def write_members(members):
    """Return what stands in the brackets for a set of signs."""
    return "".join([write_run(first, last) for first, last in members.ranges])


def write_run(first, last):
    """Return what stands in the brackets for the run of all signs from `first` to `last`."""
    written = [write_sign(sign, BRACKET_SPECIALS) for sign in SignSet.between(first, last).members]
    if len(written) < SHORTEST_RANGE:
        return "".join(written)
    return written[0] + "-" + written[-1]


def write_pattern(tree):
    """Return the canonical pattern text of a tree."""
    kind = tree[0]
    if kind == "empty":
        return ""
    if kind == "set":
        return write_set(tree[1])
    if kind == "alt":
        return "|".join([write_within(branch, BRANCH_KINDS) for branch in tree[1]])
    if kind == "seq":
        return "".join([write_within(part, ITEM_KINDS) for part in tree[1]])
    if kind == "repeat":
        return write_within(tree[1], BODY_KINDS) + write_numbers(tree[2], tree[3]) + ("~" if tree[4] else "")
    return "{" + write_brace(tree) + "}"


def write_within(tree, kinds):
    """Return the pattern text of a tree, in parentheses if it is of one of these kinds."""
    written = write_pattern(tree)
    return "(" + written + ")" if tree[0] in kinds else written


def write_numbers(least, most):
    """Return the written form of the numbers of a repeat."""
    if most is None and least < 2:
        return "+" if least else "*"
    if most is None:
        return f"<{least},>"
    if least == most:
        return f"<{least}>"
    return "?" if most == 1 else f"<{least},{most}>"


def write_brace(tree):
    """Return what stands in the braces for an edge, a look, a group or a same."""
    if tree[0] == "edge":
        return tree[1]
    if tree[0] == "look":
        return ("" if tree[2] else "not ") + tree[1] + ":" + write_pattern(tree[3])
    if tree[0] == "group":
        return "as " + tree[1] + ":" + write_pattern(tree[2])
    return "same " + tree[1]
