"""Reading of the heads and the names of brace forms."""

from surespan.alphabet import BLANKS, DIGITS, LETTERS, WORD_SIGNS
from surespan.errors import PatternFault
from surespan.names import NAME_LENGTH, NAME_SIGNS, NAME_STARTS
from surespan.notation import demand
from surespan.trees import EDGE_KINDS

LOOK_HEADS = {
    "ahead:": ("look", "ahead", True),
    "not ahead:": ("look", "ahead", False),
    "behind:": ("look", "behind", True),
    "not behind:": ("look", "behind", False),
}
NAME_HEADS = ("as ", "same ")


def leaf_heads():
    """Return the dict of the heads that are allowed everywhere, with the tree of each."""
    heads = {kind + "}": ("edge", kind) for kind in EDGE_KINDS}
    heads["digit}"] = ("set", DIGITS)
    heads["letter}"] = ("set", LETTERS)
    heads["blank}"] = ("set", BLANKS)
    heads["word}"] = ("set", WORD_SIGNS)
    return heads


def read_head(text, index, in_look):
    """Return the head that stands at the index; `in_look` tells whether it stands inside a look."""
    heads = list(leaf_heads())
    if not in_look:
        heads = heads + list(LOOK_HEADS) + list(NAME_HEADS)
    end = index
    while text[index:end] not in heads:
        end = end + 1
        begun = [head for head in heads if head.startswith(text[index:end])]
        if end > len(text) or not begun:
            raise PatternFault(end - 1)
    return text[index:end]


def read_name(text, index, closer):
    """Read the name at the index, which the sign `closer` ends; return it and the index behind both."""
    demand(text, index, NAME_STARTS)
    end = index + 1
    while text[end:end + 1] != closer:
        demand(text, end, NAME_SIGNS if end - index < NAME_LENGTH else closer)
        end = end + 1
    return text[index:end], end + 1
