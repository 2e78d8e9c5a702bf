"""Grounds: the places of several charts under common numbers, over one division of the signs.

Places are numbered from 1. A mask of places is an integer whose bits stand for them; as the target of a move, and as a
bit of a mask, 0 stands for the end of a walk. What stands before an index of a text is told by a context, a number,
and what stands behind it by the number of a cell, or by the number of cells if the text ends there.
"""

from surespan.alphabet import WORD_SIGNS
from surespan.cells import cells, least_signs
from surespan.charts import STOP
from surespan.masks import bits_of, mask_of
from surespan.meaning import edge_holds

END = 0
# The context at the index 0 of each text.
BEGINNING = 0


class Ground:
    """The common ground of a list of charts; if `whole` is True, their walks end only where the text ends.

    The walks of looks end anywhere. Moves with which no walk can be brought to an end are left out.
    """

    def __init__(self, charts, *, whole=False):
        self.ends_last = whole
        self.signs = [""]
        # For each place its moves (kinds of edges, looks that must find, looks that must not find, marks, target).
        self.moves = [()]
        # The pairs (side, chart) of the looks, each once.
        self.looks = []
        self.firsts = [self.put_chart(chart) for chart in charts]
        # The places of the charts themselves have numbers below this one, those of looks have the others.
        self.look_places = len(self.signs)
        self.look_firsts = [self.put_chart(look[1]) for look in list(self.looks)]
        self.alive = self.places_alive()
        self.behind_masks = [self.mask_behind(number) for number in range(len(self.looks))]
        self.cell_texts = self.find_cells()
        self.leasts = least_signs(self.cell_texts)
        self.reading = [
            mask_of([place for place, signs in enumerate(self.signs) if sign in signs]) for sign in self.leasts
        ]
        self.befores = []
        self.contexts = self.find_contexts()
        self.known = {}
        self.reaches = {}
        self.views = {}

    def put_chart(self, chart):
        """Add the places of a chart; return the number of the first one."""
        first = len(self.signs)
        numbers = [self.look_number(look) for look in chart[1]]
        for signs, moves in chart[0]:
            self.signs.append(signs)
            self.moves.append([self.renumbered(move, first, numbers) for move in moves])
        return first

    def look_number(self, look):
        """Return the number of a look in the list; put it there if it is new."""
        if look not in self.looks:
            self.looks.append(look)
        return self.looks.index(look)

    def renumbered(self, move, first, numbers):
        """Return a move of a chart whose first place and whose looks have these numbers here."""
        tests, marks, target = move
        kinds = [test[1] for test in tests if test[0] == "edge"]
        must = mask_of([numbers[test[1]] for test in tests if test[0] == "look" and test[2]])
        must_not = mask_of([numbers[test[1]] for test in tests if test[0] == "look" and not test[2]])
        return kinds, must, must_not, marks, END if target == STOP else first + target

    def places_alive(self):
        """Return the mask of the places from which moves lead to an end, whatever they ask for; the end is in it."""
        alive = 1 << END
        changed = True
        while changed:
            changed = False
            for place, moves in enumerate(self.moves):
                if not alive >> place & 1 and any([alive >> move[-1] & 1 and self.can_read(move) for move in moves]):
                    alive = alive | 1 << place
                    changed = True
        return alive

    def can_read(self, move):
        """Return False if the target of a move is a place that reads no sign, otherwise True."""
        return move[-1] == END or self.signs[move[-1]] != ""

    def mask_behind(self, number):
        """Return the mask of all places of a look if it is a look behind, otherwise 0."""
        if self.looks[number][0] == "ahead":
            return 0
        first = self.look_firsts[number]
        return mask_of(list(range(first, first + len(self.looks[number][1][0]))))

    def find_cells(self):
        """Return a division in which the signs of a cell are not told apart by any place or edge."""
        kinds = [kind for moves in self.moves for move in moves for kind in move[0]]
        sets = [signs for signs in self.signs if signs]
        if "line start" in kinds or "line end" in kinds:
            sets.append("\n")
        if "word edge" in kinds or "no word edge" in kinds:
            sets.append(WORD_SIGNS)
        return cells(sets)

    def find_contexts(self):
        """Return the list of the contexts behind the cells; `befores` gets a sign that stands before each context."""
        kinds = sorted(set([kind for moves in self.moves for move in moves for kind in move[0]]))
        known = {}
        found = []
        for sign in ["", *self.leasts]:
            truths = "".join([
                "1" if edge_holds(kind, sign + after, len(sign)) else "0"
                for kind in kinds for after in ["", *self.leasts]
            ])
            if truths not in known:
                known[truths] = len(known)
                self.befores.append(sign)
            found.append(known[truths])
        return found[1:]

    def options(self, place, context, following):
        """Return the list of the moves (looks that must find, looks that must not, marks, target) of a place.

        They are those whose edges hold and whose target reads the cell that follows, and none of them is idle.
        """
        key = (place, context, following)
        if key not in self.known:
            self.known[key] = without_idle(self.open_moves(place, context, following))
        return list(self.known[key])

    def open_moves(self, place, context, following):
        """Return the list of the moves of a place as `options` does, but with those that are idle."""
        return [move[1:] for move in self.moves[place] if self.may_move(place, move, context, following)]

    def may_move(self, place, move, context, following):
        """Return True if a move may be taken as far as signs and edges go, otherwise False."""
        target = move[-1]
        if not self.alive >> target & 1:
            return False
        at_end = following == len(self.cell_texts)
        if target == END and self.ends_last and place < self.look_places and not at_end:
            return False
        if target != END and (at_end or not self.reading[following] >> target & 1):
            return False
        before = self.befores[context]
        after = "" if at_end else self.leasts[following]
        return all([edge_holds(kind, before + after, len(before)) for kind in move[0]])

    def reach(self, mask, context, following):
        """Return the mask of all targets that the places of looks in a mask lead to."""
        found = 0
        for place in bits_of(mask):
            key = (place, context, following)
            if key not in self.reaches:
                self.reaches[key] = mask_of([move[-1] for move in self.options(place, context, following)])
            found = found | self.reaches[key]
        return found

    def found_behind(self, context, behind, following):
        """Return the mask of the looks behind that find their bodies.

        `behind` is the mask of the places of looks behind in which walks stand that have been begun before.
        """
        found = 0
        for number, mask in enumerate(self.behind_masks):
            standing = mask & (behind | 1 << self.look_firsts[number])
            if self.reach(standing, context, following) >> END & 1:
                found = found | 1 << number
        return found

    def view(self, context, behind, following):
        """Return the view of the moves at an index with this context, walks of looks behind and following cell."""
        key = (context, behind, following)
        if key not in self.views:
            found = self.found_behind(context, behind, following)
            # The looks behind matter only by what they find.
            shared = (context, -1 - found, following)
            if shared not in self.views:
                self.views[shared] = View(self, context, following, found)
            self.views[key] = self.views[shared]
        return self.views[key]

    def view_of_end(self, context, behind):
        """Return the view at the end of a text."""
        return self.view(context, behind, len(self.cell_texts))

    def behind_after(self, context, behind, following):
        """Return the mask of the places in which walks of looks behind stand when the following cell is read."""
        found = 0
        for number, mask in enumerate(self.behind_masks):
            standing = mask & (behind | 1 << self.look_firsts[number])
            found = found | self.reach(standing, context, following)
        return found & ~(1 << END)


def without_idle(moves):
    """Return the list of the moves that no earlier move with the same target makes idle."""
    kept = []
    for must, must_not, marks, target in moves:
        idle = [
            move for move in kept if move[3] == target and not move[0] & ~must and not move[1] & ~must_not
        ]
        if not idle:
            kept.append((must, must_not, marks, target))
    return kept


class View:
    """What places see at an index of which it is known what stands before and behind it.

    Of the looks ahead, some surely find their bodies or surely do not; the others are open: that is told by the signs
    that follow later.
    """

    def __init__(self, ground, context, following, found):
        self.ground = ground
        self.context = context
        self.following = following
        # For each look ahead the mask of the places (and the end) that its walks from here lead to.
        self.begun = [self.begun_by(number) for number in range(len(ground.looks))]
        ahead = [number for number, look in enumerate(ground.looks) if look[0] == "ahead"]
        self.found = found | mask_of([number for number in ahead if self.begun[number] >> END & 1])
        open_looks = mask_of([number for number in ahead if self.begun[number]])
        self.lost = ~(self.found | open_looks)
        self.known = {}
        self.kept_ways = {}
        self.reaches = {}
        self.kept_bundles = {}

    def begun_by(self, number):
        """Return the mask of the targets that the walks of a look ahead from here lead to; 0 for a look behind."""
        if self.ground.looks[number][0] == "behind":
            return 0
        return self.ground.reach(1 << self.ground.look_firsts[number], self.context, self.following)

    def options(self, place):
        """Return the list of the moves of a place as `Ground.options` does, in which only open looks are left."""
        if place not in self.known:
            moves = self.ground.options(place, self.context, self.following)
            self.known[place] = without_idle(self.with_open_looks(moves))
        return list(self.known[place])

    def ways_on(self, place):
        """Return the list of the moves of a place as `options` does, but with those that are idle."""
        if place not in self.kept_ways:
            moves = self.ground.open_moves(place, self.context, self.following)
            self.kept_ways[place] = self.with_open_looks(moves)
        return list(self.kept_ways[place])

    def with_open_looks(self, moves):
        """Return the list of those moves that may be taken, as far as is seen, in which only open looks are left."""
        return [
            (must & ~self.found, must_not & ~self.lost, marks, target) for must, must_not, marks, target in moves
            if not must & self.lost and not must_not & self.found
        ]

    def bundles(self, place):
        """Return the list of the triples (looks that must find, looks that must not, targets) of a place."""
        if place not in self.kept_bundles:
            found = {}
            for must, must_not, _, target in self.options(place):
                found[must, must_not] = found.get((must, must_not), 0) | 1 << target
            self.kept_bundles[place] = [(must, must_not, found[must, must_not]) for must, must_not in found]
        return list(self.kept_bundles[place])

    def asked(self, mask):
        """Return the mask of the open looks that the places of a mask ask for."""
        found = 0
        for place in bits_of(mask):
            for must, must_not, _, _ in self.options(place):
                found = found | must | must_not
        return found

    def reach(self, place, found):
        """Return the mask of the targets of a place if the open looks in the mask `found` find their bodies."""
        key = (place, found)
        if key not in self.reaches:
            self.reaches[key] = mask_of([
                target for must, must_not, _, target in self.options(place)
                if not must & ~found and not must_not & found
            ])
        return self.reaches[key]

    def reach_all(self, mask, found):
        """Return the mask of the targets of all places of a mask, likewise."""
        result = 0
        for place in bits_of(mask):
            result = result | self.reach(place, found)
        return result
