"""Lists of trees: the first tree that accepts a text wins it."""

from surespan.acceptance import least_told
from surespan.meaning import accepts
from surespan.trees import need_regular


def winner(trees, text):
    """Return the number of the first tree that accepts the text, or None. Raises NotRegular."""
    need_all_regular(trees)
    for number, tree in enumerate(trees):
        if accepts(tree, text):
            return number
    return None


def winning_text(trees, number):
    """Return the least text whose winner is the tree with this number, or None. Raises NotRegular."""
    need_all_regular(trees)
    if not 0 <= number < len(trees):
        return None
    return least_told(trees[number:number + 1], trees[:number])


def need_all_regular(trees):
    """Raise NotRegular if one of the trees is not regular."""
    for tree in trees:
        need_regular(tree)
