"""Hunts: the search for the least text on which some walks come to an end and others do not.

A node of a hunt stands for what is asked of the rest of a text, behind the signs that have been read. It is a tuple
(stage, pair, differing, wanted, barred). `wanted` and `barred` are masks of places: from each of the first ones a walk
must come to an end, from none of the second ones. At the stage `SETTLED` nothing else is asked for. At other stages a
hunt may also follow a pair of walks, which stand at the places of the tuple `pair` and must come to an end, too;
`differing` is a mask of what is not the same for the two, and more of it makes a node easier.

Texts are met in text order. A node is left out if one that was met before is easier: if it asks for nothing that the
later one does not ask for, each text that fulfils the later one gives an earlier text that fulfils the earlier one.
"""

from surespan.grounds import BEGINNING, END
from surespan.likeness import likeness
from surespan.masks import bits_of, joined, mask_of

SETTLED = 0
# So many looks behind that must find are not counted any more.
MANY = 3


def settled(wanted, barred):
    """Return the node that asks for nothing but these places."""
    return (SETTLED, (), 0, wanted, barred)


class Hunt:
    """A hunt on a ground."""

    def __init__(self, ground):
        self.ground = ground
        mask = (1 << len(ground.signs)) - 2 - sum(ground.behind_masks)
        self.below = likeness(ground, mask)
        self.above = [
            sum([1 << other for other in bits_of(mask) if self.below[other] >> place & 1])
            for place in range(len(ground.signs))
        ]
        # The looks behind that places ask for, on the way to an end: those that must find, and those that must not.
        self.asked_behind = self.find_asked_behind()
        # For each place how many looks behind must find on a way to an end, at most; but not more than `MANY`.
        self.finds = self.most_finds()
        # For each kind of node what `is_new` needs of those met so far.
        self.met = {}
        self.kept_moves = {}

    def least_text(self, nodes):
        """Return the least text that fulfils one of the nodes, or None."""
        return self.least_text_of([("", BEGINNING, 0, nodes)])

    def least_text_of(self, beginnings):
        """Return the least text that goes on from one of the beginnings, which are in text order, or None.

        A beginning is a quadruple (text, context, behind, nodes), and so is a bunch of nodes that are kept.
        """
        self.met = {}
        bunches = self.bunches_of(beginnings)
        while bunches:
            for text, context, behind, held in bunches:
                view = self.ground.view_of_end(context, behind)
                for node in held:
                    if [after for after in self.nodes_after(node, view) if is_fulfilled(after)]:
                        return text
            reached = [later for bunch in bunches for later in self.beginnings_after(bunch)]
            bunches = self.bunches_of(sorted(reached, key=text_of))
        return None

    def beginnings_after(self, bunch):
        """Return the list of the beginnings for the texts with one sign more than that of a bunch."""
        text, context, behind, held = bunch
        found = []
        for cell, sign in enumerate(self.ground.leasts):
            view = self.ground.view(context, behind, cell)
            reached = [after for node in held for after in self.nodes_after(node, view)]
            after_behind = self.ground.behind_after(context, behind, cell)
            found.append((text + sign, self.ground.contexts[cell], after_behind, reached))
        return found

    def bunches_of(self, beginnings):
        """Return the list of the bunches of those nodes that are kept. A text may have several bunches."""
        found = []
        for text, context, behind, nodes in beginnings:
            groups = {}
            for node in nodes:
                for share in self.shares(node, behind):
                    groups.setdefault(share, []).append(node)
            for share, group in groups.items():
                kept = self.new_nodes(context, share, group)
                if kept:
                    found.append((text, context, share, kept))
        return found

    def shares(self, node, behind):
        """Return the list of the parts of `behind` of which one is enough to fulfil a node, if all of it is.

        In the places of the mask `behind`, walks of looks behind stand. Each look that must find needs only one.
        """
        asking = self.places_asking(node)
        if asking is None:
            return [behind]
        useful = bits_of(behind & joined(mask_of(asking), self.asked_behind[0]))
        found = [0]
        for _ in range(min(sum([self.finds[place] for place in asking]), len(useful))):
            found = list({share | 1 << place: True for share in found for place in useful if not share >> place & 1})
        return found

    def places_asking(self, node):
        """Return the list of the places from which walks must come to an end for a node, with all that they ask for.

        Return None if it is not known that so few looks behind are asked for, and that they must only find.
        """
        stage, _, _, wanted, barred = node
        return self.asking(bits_of(wanted), barred) if stage == SETTLED else None

    def asking(self, places, barred):
        """Return the list of the places, or None if too much is asked behind, as `places_asking` does."""
        finding, missing = self.asked_behind
        if joined(barred, finding) | joined(barred | mask_of(places), missing):
            return None
        return places if sum([self.finds[place] for place in places]) < MANY else None

    def new_nodes(self, context, behind, nodes):
        """Return the list of those nodes that can be fulfilled, as far as is seen, and are not left out."""
        kept = []
        for node in nodes:
            stage, pair, differing, wanted, barred = node
            asked = wanted | mask_of(pair)
            closed = joined(barred, self.below)
            if asked & closed:
                continue
            helping, hurting = self.roles_behind(stage, wanted, barred)
            # For looks that may help and hurt, it must be the same what stands before the index.
            kind = (context, stage, pair, helping, hurting, behind & helping & hurting)
            opened = joined(asked, self.above)
            demands = self.demands_of(differing, closed, behind & hurting, helping & ~behind)
            if is_new(self.met.setdefault(kind, {}), opened, demands):
                kept.append((stage, pair, differing, self.truly_wanted(wanted, asked), barred))
        return kept

    def demands_of(self, differing, closed, hurting, not_helping):
        """Return a mask of what makes a node hard to fulfil, but for its wanted places: with less in it, it is easier.

        From no place in the mask `closed` a walk may come to an end. In the places of looks behind in `hurting` walks
        stand, and in those in `not_helping` none do.
        """
        demands = ~differing
        for mask in (closed, hurting, not_helping):
            demands = demands << len(self.ground.signs) | mask
        return demands

    def find_asked_behind(self):
        """Return two lists with the masks of places of looks behind that must find, and must not, for each place."""
        masks = self.ground.behind_masks
        finding = [0] * len(self.ground.moves)
        missing = [0] * len(self.ground.moves)
        changed = True
        while changed:
            changed = False
            for place, moves in enumerate(self.ground.moves):
                before = (finding[place], missing[place])
                for _, must, must_not, _, target in moves:
                    finding[place] = finding[place] | joined(must, masks) | finding[target]
                    missing[place] = missing[place] | joined(must_not, masks) | missing[target]
                changed = changed or before != (finding[place], missing[place])
        return finding, missing

    def most_finds(self):
        """Return a list with the greatest number of looks behind for each place that must find on a way to an end.

        Greater numbers than `MANY` are not told apart from it.
        """
        behind = mask_of([number for number, mask in enumerate(self.ground.behind_masks) if mask])
        found = [0] * len(self.ground.moves)
        changed = True
        while changed:
            changed = False
            for place, moves in enumerate(self.ground.moves):
                counts = [len(bits_of(must & behind)) + found[target] for _, must, _, _, target in moves]
                count = min(MANY, max(counts, default=0))
                changed = changed or count != found[place]
                found[place] = count
        return found

    def roles_behind(self, stage, wanted, barred):
        """Return the masks of the places of looks behind where walks help to fulfil a node, and where they hurt.

        Where it is not known which, places are in both masks.
        """
        if stage != SETTLED:
            every = sum(self.ground.behind_masks)
            return every, every
        finding, missing = self.asked_behind
        helping = joined(wanted, finding) | joined(barred, missing)
        hurting = joined(wanted, missing) | joined(barred, finding)
        return helping, hurting

    def truly_wanted(self, wanted, asked):
        """Return the mask of wanted places without those from which walks end as soon as others of `asked` do so."""
        found = 0
        for place in bits_of(wanted):
            others = self.below[place] & asked & ~(1 << place)
            # Of places that are below each other, the first one is kept.
            if not [other for other in bits_of(others) if other < place or not self.above[place] >> other & 1]:
                found = found | 1 << place
        return found

    def nodes_after(self, node, view):
        """Return the list of the nodes to which a node leads by what a view tells."""
        return self.settled_after(node[3], node[4], view)

    def settled_after(self, wanted, barred, view):
        """Return the list of the settled nodes to which one with these places leads."""
        return [settled(*masks) for masks in self.masks_after(wanted, barred, 0, 0, view)]

    def masks_after(self, wanted, barred, must, must_not, view):
        """Return the list of the pairs of the wanted and the barred places behind the index.

        At the index, the open looks in `must` find their bodies, and those in `must_not` do not.
        """
        found = {}
        if must & must_not:
            return []
        # It is guessed what looks find that the barred places ask for. Of the others, only what is needed is asked.
        for finding, missing in guesses(view.asked(barred) & ~must & ~must_not, must, must_not):
            after_barred = view.reach_all(barred, finding)
            if not after_barred >> END & 1:
                for targets, found_looks, missed_looks in self.choices(wanted, finding, missing, view):
                    after = after_barred | joined(missed_looks, view.begun)
                    for chosen in self.begun_choices(found_looks, view):
                        found[targets | chosen, after] = True
        return list(found)

    def choices(self, wanted, finding, missing, view):
        """Return the list of the triples (places, looks that find, looks that do not) that serve all wanted places.

        It is empty if there is no way to do so. For each wanted place a move is chosen that is allowed if the looks in
        `finding` find their bodies and those in `missing` do not.
        """
        found = [(0, finding, missing)]
        for place in bits_of(wanted):
            further = {}
            for must, must_not, target in self.best_moves(place, view):
                bit = 0 if target == END else 1 << target
                for chosen, yes, no in found:
                    if not must & no and not must_not & yes:
                        further[chosen | bit, yes | must, no | must_not] = True
            found = list(further)
        return found

    def begun_choices(self, looks, view):
        """Return the list of the masks in which there is a place for each open look from which its walk goes on."""
        found = [0]
        for look in bits_of(looks):
            places = self.best(view.begun[look])
            found = list({chosen | 1 << place: True for chosen in found for place in places})
        return found

    def best_moves(self, place, view):
        """Return the list of the moves (looks that must find, looks that must not, target) of a place.

        A move is left out if another one asks for no more and comes to an end whenever it does.
        """
        key = (view, place)
        if key not in self.kept_moves:
            kept = []
            for must, must_not, _, target in view.options(place):
                move = (must, must_not, target)
                if not [other for other in kept if self.is_as_good(other, move)]:
                    kept = [*[other for other in kept if not self.is_as_good(move, other)], move]
            self.kept_moves[key] = kept
        return list(self.kept_moves[key])

    def is_as_good(self, move, other):
        """Return True if a move asks for no more than another one and surely comes to an end whenever that one does."""
        if move[0] & ~other[0] or move[1] & ~other[1]:
            return False
        return move[2] == END or self.above[other[2]] >> move[2] & 1 == 1

    def best(self, mask):
        """Return the list of the places of a mask without those that are below another one of them."""
        found = []
        for place in bits_of(mask):
            others = self.above[place] & mask & ~(1 << place)
            # Of places that are below each other, the first one is kept.
            if not [other for other in bits_of(others) if other < place or not self.below[place] >> other & 1]:
                found.append(place)
        return found


def text_of(beginning):
    """Return the text of a beginning."""
    return beginning[0]


def guesses(looks, finding, missing):
    """Return the list of the pairs (looks that find, looks that do not) for all that may be said of some looks.

    The looks in `finding` and in `missing` are in each pair.
    """
    found = [(finding, missing)]
    for look in bits_of(looks):
        bit = 1 << look
        found = [*[(yes | bit, no) for yes, no in found], *[(yes, no | bit) for yes, no in found]]
    return found


def is_new(met, opened, demands):
    """Return True if no node in `met` is easier than one with these demands; put it there if so.

    `met` is a dict from masks to lists of demands: the mask, and likewise `opened`, has the places from which walks
    come to an end if the node is fulfilled.
    """
    absent = ~demands
    for earlier_opened, held in met.items():
        if not earlier_opened & ~opened:
            for earlier in held:
                if not earlier & absent:
                    return False
    met.setdefault(opened, []).append(demands)
    return True


def is_fulfilled(node):
    """Return True if a node, reached at the end of a text, asks for nothing more, otherwise False."""
    return node[0] == SETTLED and node[3] == 0
