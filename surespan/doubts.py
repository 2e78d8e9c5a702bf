"""Doubts: the least texts that, behind a text which has arrived so far, change its first answer."""

from surespan.grounds import END
from surespan.hunts import SETTLED, Hunt, settled

# At this stage a walk may begin at the index or at a later one, and must come to an end.
ANYWHERE = 6


class DoubtHunt(Hunt):
    """A hunt on the ground of one chart behind a text that has arrived, from which lanes of a flow go on.

    A lane gets through if its walk comes to an end and its condition is fulfilled. The first lane that gets through
    has the first answer. A choice is a pair of masks: the wanted and the barred places.
    """

    def nodes_after(self, node, view):
        """Return the list of the nodes to which a node leads by what a view tells."""
        stage, _, _, wanted, barred = node
        if stage == SETTLED:
            return self.settled_after(wanted, barred, view)
        return [*self.settled_after(1 << self.ground.firsts[0], 0, view), node]

    def places_asking(self, node):
        """Return the list of the places that ask for looks behind, or None, as `Hunt.places_asking` does."""
        if node[0] == ANYWHERE:
            return self.asking([self.ground.firsts[0]], 0)
        return super().places_asking(node)

    def nodes_with_answer(self, lanes):
        """Return the list of the nodes at which one of the lanes gets through, or a later walk comes to an end."""
        nodes = [settled(wanted, barred) for lane in lanes for wanted, barred in self.ways_through(lane)]
        return [*nodes, (ANYWHERE, (), 0, 0, 0)]

    def nodes_with_change(self, lanes, same):
        """Return the list of the nodes at which the first lane that gets through is not one with the old answer.

        `same` tells for each lane whether it has the old answer if it gets through.
        """
        nodes = []
        # What keeps all lanes with the old answer up to here from getting through.
        closed = [(0, 0)]
        for lane, is_same in zip(lanes, same):
            if is_same:
                closed = both(closed, self.ways_against(lane))
            else:
                nodes.extend(both(closed, self.ways_through(lane)))
        return [settled(wanted, barred) for wanted, barred in [*nodes, *closed]]

    def ways_through(self, lane):
        """Return the list of the choices of which one must hold so that a lane gets through."""
        place, barred, wanted = lane
        found = [(0 if place == END else 1 << place, barred)]
        for mask in wanted:
            found = both(found, [(1 << chosen, 0) for chosen in self.best(mask)])
        return found

    def ways_against(self, lane):
        """Return the list of the choices of which one must hold so that a lane does not get through."""
        place, barred, wanted = lane
        found = [] if place == END else [(0, 1 << place)]
        found.extend([(1 << chosen, 0) for chosen in self.best(barred)])
        found.extend([(0, mask) for mask in wanted])
        return found


def both(choices, others):
    """Return the list of the choices that make one of each list hold, without those that surely cannot hold."""
    found = {}
    for wanted, barred in choices:
        for other_wanted, other_barred in others:
            choice = (wanted | other_wanted, barred | other_barred)
            if not choice[0] & choice[1]:
                found[choice] = True
    return list(found)
