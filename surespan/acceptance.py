"""The least texts that trees accept, or do not accept."""

from surespan.alphabet import SIGNS
from surespan.charts import chart_of
from surespan.grounds import Ground
from surespan.hunts import Hunt, settled
from surespan.masks import mask_of


def least_accepted(tree):
    """Return the least text that the tree accepts, or None. Raises NotRegular."""
    return least_told([tree], [])


def least_refused(tree):
    """Return the least text that the tree does not accept, or None. Raises NotRegular."""
    return least_told([], [tree])


def least_answered(tree):
    """Return the least text on which there is a first answer from the start index 0, or None. Raises NotRegular."""
    anything = ("repeat", ("set", SIGNS), 0, None, False)
    return least_told([("seq", (anything, tree, anything))], [])


def outside(tree, other):
    """Return the least text that the first tree accepts and the second one does not, or None. Raises NotRegular."""
    return least_told([tree], [other])


def shared(tree, other):
    """Return the least text that both trees accept, or None. Raises NotRegular."""
    return least_told([tree, other], [])


def least_told(accepting, refusing):
    """Return the least text that all trees of the first list accept and none of the second list does, or None.

    Raises NotRegular if one of the trees is not regular.
    """
    ground = Ground([chart_of(tree) for tree in [*accepting, *refusing]], whole=True)
    wanted = mask_of(ground.firsts[:len(accepting)])
    barred = mask_of(ground.firsts[len(accepting):])
    return Hunt(ground).least_text([settled(wanted, barred)])
