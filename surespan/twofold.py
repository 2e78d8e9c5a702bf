"""The least texts with several whole ways."""

from surespan.grounds import END, Ground
from surespan.hunts import SETTLED, Hunt, settled
from surespan.masks import mask_of
from surespan.waycharts import way_chart

# At this stage all signs have been read by what may still become two ways; the pair has their only place.
UNPARTED = 5


def twofold(tree):
    """Return the least text with at least two whole ways, or None. Raises NotRegular."""
    ground = Ground([way_chart(tree)], whole=True)
    return WayHunt(ground).least_text([(UNPARTED, (ground.firsts[0],), 0, 0, 0)])


class WayHunt(Hunt):
    """A hunt for the least text with two whole ways, on the ground of a way chart.

    When the two have parted, it is enough that walks from the places of both come to an end.
    """

    def nodes_after(self, node, view):
        """Return the list of the nodes to which a node leads by what a view tells."""
        stage, pair, _, wanted, barred = node
        if stage == SETTLED:
            return self.settled_after(wanted, barred, view)
        ways = view.ways_on(pair[0])
        asked = view.asked(wanted | barred)
        for must, must_not, _, _ in ways:
            asked = asked | must | must_not
        found = []
        for looks, more_wanted, more_barred in self.guesses(asked, view):
            after_barred = view.reach_all(barred, looks) | more_barred
            if not after_barred >> END & 1:
                targets = [
                    target for must, must_not, _, target in ways if not must & ~looks and not must_not & looks
                ]
                for after_wanted in self.choices(wanted, looks, view):
                    found.extend(nodes_behind(targets, after_wanted | more_wanted, after_barred))
        return found


def nodes_behind(targets, wanted, barred):
    """Return the list of the nodes to which ways from one place lead; `targets` has the target of each of them."""
    together = [(UNPARTED, (target,), 0, wanted, barred) for target in targets if target != END]
    parted = {}
    for number, target in enumerate(targets):
        for other in targets[:number]:
            parted[mask_of([target, other]) & ~(1 << END)] = True
    return [*together, *[settled(wanted | mask, barred) for mask in parted]]
