"""The least texts with several whole ways."""

from surespan.grounds import END, Ground
from surespan.hunts import SETTLED, Hunt, settled
from surespan.masks import bits_of, mask_of
from surespan.waycharts import way_chart

# At this stage all signs have been read by what may still become two ways; the pair has their only place.
UNPARTED = 5


def twofold(tree):
    """Return the least text with at least two whole ways, or None. Raises NotRegular."""
    ground = Ground([way_chart(tree)], whole=True)
    return WayHunt(ground).least_text([(UNPARTED, (ground.firsts[0],), 0, 0, 0)])


class WayHunt(Hunt):
    """A hunt for the least text with two whole ways, on the ground of a way chart.

    When the two have parted, it is enough that walks from the places of both come to an end.
    """

    def nodes_after(self, node, view):
        """Return the list of the nodes to which a node leads by what a view tells."""
        stage, pair, _, wanted, barred = node
        if stage == SETTLED:
            return self.settled_after(wanted, barred, view)
        found = []
        for (must, must_not), steps in steps_by_looks(view.ways_on(pair[0])).items():
            masks = self.masks_after(wanted, barred, must, must_not, view)
            found.extend([step_node(step, after) for after in masks for step in steps])
        return found

    def places_asking(self, node):
        """Return the list of the places that ask for looks behind, or None, as `Hunt.places_asking` does."""
        stage, pair, _, wanted, barred = node
        if stage == UNPARTED:
            # Each of the two ways may ask for all of it.
            return self.asking([*pair, *pair, *bits_of(wanted)], barred)
        return super().places_asking(node)


def steps_by_looks(ways):
    """Return a dict with the list of the steps from a place, by the looks that must find and that must not find.

    A step is a pair (places, whether two ways part). `ways` has the moves of the place.
    """
    steps = {}
    for number, (must, must_not, _, target) in enumerate(ways):
        if target != END:
            steps[must, must_not, 1 << target, False] = True
        for other_must, other_must_not, _, other in ways[:number]:
            places = mask_of([target, other]) & ~(1 << END)
            steps[must | other_must, must_not | other_must_not, places, True] = True
    found = {}
    for must, must_not, places, parts in steps:
        found.setdefault((must, must_not), []).append((places, parts))
    return found


def step_node(step, masks):
    """Return the node to which a step leads; `masks` has the places that are wanted and barred besides."""
    places, parts = step
    if parts:
        return settled(masks[0] | places, masks[1])
    return (UNPARTED, tuple(bits_of(places)), 0) + masks
