"""Hunts for the least text on which the first ways, or the first answers, of two trees differ."""

from surespan.differences import Differences
from surespan.grounds import END
from surespan.hunts import SETTLED, Hunt, guesses, settled
from surespan.masks import joined

# At this stage the first ways of the two trees from one index are followed.
PAIRED = 1
# At this stage the answers have not begun: walks from all indexes passed since the start index are barred.
SEEKING = 2
# At this stage the start index has not been reached.
WAITING = 3


class PairHunt(Hunt):
    """A hunt on the ground of two charts; captured spans are compared only if `with_rows` is True."""

    def __init__(self, ground, *, with_rows):
        super().__init__(ground)
        self.with_rows = with_rows
        self.differences = Differences(ground)

    def nodes_after(self, node, view):
        """Return the list of the nodes to which a node leads by what a view tells."""
        stage, _, _, wanted, barred = node
        if stage == SETTLED:
            return self.settled_after(wanted, barred, view)
        if stage == PAIRED:
            return self.paired_after(node, view)
        if stage == WAITING:
            return [*self.sought_after(wanted, barred, view), node]
        return self.sought_after(wanted, barred, view)

    def sought_after(self, wanted, barred, view):
        """Return the list of the nodes to which a node leads at which the answers have not begun before the index."""
        first, second = self.ground.firsts
        either = 1 << first | 1 << second
        # Both answers begin at the index, one begins there and the other one does not, or both do not.
        return [
            *self.paired_after((PAIRED, (first, second), 0, wanted, barred), view),
            *self.settled_after(wanted | 1 << first, barred | 1 << second, view),
            *self.settled_after(wanted | 1 << second, barred | 1 << first, view),
            *[(SEEKING,) + after[1:] for after in self.settled_after(wanted, barred | either, view)],
        ]

    def paired_after(self, node, view):
        """Return the list of the nodes to which one leads that follows the first ways of both trees."""
        _, (first, second), differing, wanted, barred = node
        found = []
        asked = view.asked(barred | 1 << first | 1 << second)
        for finding, missing in guesses(asked, 0, 0):
            after_barred = view.reach_all(barred, finding)
            if not after_barred >> END & 1:
                picked = [
                    (pick, other) for pick in picks(first, finding, view) for other in picks(second, finding, view)
                ]
                for targets, found_looks, missed_looks in self.choices(wanted, finding, missing, view):
                    after = after_barred | joined(missed_looks, view.begun)
                    for chosen in self.begun_choices(found_looks, view):
                        masks = (targets | chosen, after)
                        found.extend([node for pair in picked for node in self.followed(differing, masks, pair)])
        return found

    def followed(self, differing, masks, picked):
        """Return the list of the node, if there is one, to which two picks of moves lead.

        `masks` is the pair of the masks of the wanted and the barred places behind the index.
        """
        (target, better, marks), (other_target, other_better, other_marks) = picked
        wanted = masks[0]
        barred = masks[1] | better | other_better
        pair = (target, other_target)
        if END in pair and pair != (END, END):
            # The way that goes on has another end.
            return [settled(wanted | 1 << max(pair), barred)]
        after = self.differences.after(differing, marks, other_marks, pair) if self.with_rows else 0
        if pair != (END, END):
            return [(PAIRED, pair, after, wanted, barred)]
        return [settled(wanted, barred)] if after else []


def picks(place, looks, view):
    """Return the list of the moves with which the first way may go on from a place.

    Each item is a triple (target, better, marks): no walk from the places in the mask `better` may come to an end then.
    `looks` is the mask of the open looks that find their bodies.
    """
    found = []
    better = 0
    for must, must_not, marks, target in view.options(place):
        if not must & ~looks and not must_not & looks:
            found.append((target, better, marks))
            if target == END:
                break
            better = better | 1 << target
    return found
