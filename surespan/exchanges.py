"""End lists of plain trees, and the least texts on which they differ."""

from surespan.charts import STOP, chart_of
from surespan.grounds import END, Ground
from surespan.hunts import SETTLED, settled
from surespan.looktables import Passage
from surespan.masks import bits_of
from surespan.pairhunts import PAIRED, PairHunt
from surespan.rows import with_marks
from surespan.trees import need_plain

# At this stage a walk of one tree that leads to a later end and one of the other tree that leads to an earlier end are
# followed, up to the earlier end.
CROSSING = 4


def end_list(tree, text):
    """Return the list of the pairs (end, row) of the different ends of the ways from index 0. Raises NotPlain."""
    need_plain(tree)
    passage = Passage(chart_of(tree), text)
    # The walks in their order: (place, row, slots) if they stand at the index, (STOP, end, row) if they have ended.
    walks = [(0, (), {})]
    for at in range(len(text) + 1):
        walks = walks_after(passage, walks, at)
    return [walk[1:] for walk in walks]


def walks_after(passage, walks, at):
    """Return the list of the walks behind the sign at the index, with the first one to each place and each end."""
    moves = passage.open_moves(at)
    readers = passage.readers(at)
    met = {}
    found = []
    for walk in walks:
        if walk[0] == STOP:
            found.append(walk)
            continue
        place, row, slots = walk
        for marks, target in moves[place]:
            if target not in met and (target == STOP or readers >> target & 1):
                met[target] = True
                after_row, after_slots = with_marks(row, slots, marks, at)
                found.append((STOP, at, after_row) if target == STOP else (target, after_row, after_slots))
    return found


def list_parting(tree, other):
    """Return the least text on which the end lists of two trees differ, or None. Raises NotPlain."""
    need_plain(tree)
    need_plain(other)
    charts = [chart_of(tree), chart_of(other)]
    # Equal charts have the same walks on each text.
    if charts[0] == charts[1]:
        return None
    ground = Ground(charts, whole=True)
    first, second = ground.firsts
    # On the least text it is the last end that makes the difference: only one tree has it, its rows differ, or it
    # stands before an earlier end in one list and behind it in the other one.
    return ListHunt(ground).least_text([
        settled(1 << first, 1 << second),
        settled(1 << second, 1 << first),
        (PAIRED, (first, second), 0, 0, 0),
        (CROSSING, (first, second), 0, 0, 0),
        (CROSSING, (second, first), 0, 0, 0),
    ])


class ListHunt(PairHunt):
    """A hunt for the least text on which the end lists of two plain trees differ.

    At the stage `CROSSING`, the first walk of the pair is the first one of its tree that leads to a later end, and the
    second walk is the first one of the other tree that leads to an earlier end. The barred places are those of better
    walks than each of them. None of these may come to one of the two ends: so the later end comes first in the one
    list, and the earlier end in the other one.
    """

    def __init__(self, ground):
        super().__init__(ground, with_rows=True)

    def nodes_after(self, node, view):
        """Return the list of the nodes to which a node leads by what a view tells."""
        stage, _, _, wanted, barred = node
        if stage == SETTLED:
            return self.settled_after(wanted, barred, view)
        if stage == PAIRED:
            return self.paired_after(node, view)
        return self.crossing_after(node, view)

    def crossing_after(self, node, view):
        """Return the list of the nodes to which one leads whose second walk has not come to its end before."""
        _, (first, second), _, _, barred = node
        after = view.reach_all(barred, 0)
        moves, other_moves = self.ordered_moves(first, view), self.ordered_moves(second, view)
        found = [
            (CROSSING, (target, other_target), 0, 0, after | better | other_better)
            for target, better, _ in moves if target != END
            for other_target, other_better, _ in other_moves if other_target != END
        ]
        ends = [better for target, better, _ in other_moves if target == END]
        if ends and not [place for place in bits_of(barred) if self.can_end(place)]:
            # Of the moves of the second walk to its end, the first one is the best.
            found.extend([
                settled(1 << target, after | better | ends[0])
                for target, better, ended in moves if target != END and not ended
            ])
        return found

    def ordered_moves(self, place, view):
        """Return the list of the moves of a place on the following sign, and to the end.

        Each item is a triple: the target, the mask of the places that better moves lead to, and whether one of the
        better moves leads to the end.
        """
        found = []
        better = 0
        ended = False
        reach = view.reach(place, 0)
        for move in self.ground.moves[place]:
            target = move[-1]
            if target == END:
                found.append((END, better, ended))
                ended = True
            elif reach >> target & 1:
                found.append((target, better, ended))
                better = better | 1 << target
        return found

    def can_end(self, place):
        """Return True if a walk may end at the place, otherwise False."""
        return END in [move[-1] for move in self.ground.moves[place]]
