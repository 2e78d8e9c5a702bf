"""Flows: the walks of a tree that go on side by side while a text is read, in their order.

A state of a flow is a triple (context, behind, lanes), as the texts that lead to it leave it: `context` and `behind`
are what `Ground.view` needs, and `lanes` is a tuple of triples (place, barred, wanted). A lane stands for the first
walk that leads to its place under its condition; a walk that has come to an end stands at the place `END`. The flow
does not tell where walks began and what they captured: the origins, a list with a pair (number of a lane in the state
before, marks) for each lane, tell how to go on with that. A walk that begins anew has the origin `NEW`.
"""

from surespan.charts import chart_of
from surespan.conditions import NOTHING, Conditions
from surespan.grounds import BEGINNING, END, Ground
from surespan.twins import twins_of

NEW = (-1, ())


class Flow:
    """The flow of a regular tree in one of the modes "search", "here" and "whole"; raises NotRegular."""

    def __init__(self, tree, mode):
        self.ground = Ground([chart_of(tree)], whole=mode == "whole")
        self.searching = mode == "search"
        self.conditions = Conditions(self.ground)
        # From twins all walks go on alike; so lanes stand at one of them for all.
        self.twins = twins_of(self.ground)
        self.first_lane = (self.twins[self.ground.firsts[0]],) + NOTHING
        self.cell_numbers = {sign: number for number, cell in enumerate(self.ground.cell_texts) for sign in cell}
        self.first_state = (BEGINNING, 0, (self.first_lane,))

    def after(self, state, cell):
        """Return the state behind one more sign, which is in the cell, and the origins of its lanes."""
        context, behind, lanes = state
        view = self.ground.view(context, behind, cell)
        gathering = Gathering(self.conditions)
        for number, (place, barred, wanted) in enumerate(lanes):
            condition = self.conditions.after((barred, wanted), view)
            if condition is not None:
                self.go_on(gathering, view, number, place, condition)
        if self.searching:
            gathering.put(self.first_lane[0], NOTHING, NEW)
        after_context = self.ground.contexts[cell]
        after_behind = self.ground.behind_after(context, behind, cell)
        return trimmed(after_context, after_behind, tuple(gathering.lanes)), gathering.origins

    def go_on(self, gathering, view, number, place, condition):
        """Put the lanes into the gathering to which the moves of a lane lead."""
        if place == END:
            gathering.put(END, condition, (number, ()))
            return
        for must, must_not, marks, target in view.options(place):
            after = self.conditions.with_looks(condition, must, must_not, view)
            if after is not None:
                gathering.put(self.twins[target], after, (number, marks))

    def result(self, state):
        """Return the pair (number of a lane, marks) for the first walk if the text ends here, or None."""
        context, behind, lanes = state
        view = self.ground.view_of_end(context, behind)
        for number, (place, barred, wanted) in enumerate(lanes):
            if self.conditions.after((barred, wanted), view) is not None:
                if place == END:
                    return number, ()
                last_moves = view.options(place)
                if last_moves:
                    return number, last_moves[0][2]
        return None


class Gathering:
    """Gathers the lanes of a state in their order, without those that can make no difference."""

    def __init__(self, conditions):
        self.conditions = conditions
        self.lanes = []
        self.origins = []
        # For each place, and for the end, what the conditions of its lanes need.
        self.met = {}

    def put(self, place, condition, origin):
        """Add a lane, unless an earlier one ends, or goes on from the same place, whenever this one can."""
        missing = ~self.conditions.grants(condition)
        for earlier in [*self.met.get(END, []), *self.met.get(place, [])]:
            if not earlier & missing:
                return
        needs = self.conditions.needs(condition)
        self.take_back(place, needs, origin)
        self.met.setdefault(place, []).append(needs)
        self.lanes.append((place,) + condition)
        self.origins.append(origin)

    def take_back(self, place, needs, origin):
        """Take back those of the last lanes, if they have this place and origin, that a new such lane makes needless.

        They would only bring what the new lane brings, too, whenever they do; and no other lane comes between.
        """
        kept = []
        while self.lanes and self.lanes[-1][0] == place and self.origins[-1] == origin:
            self.origins.pop()
            lane = self.lanes.pop()
            if needs & ~self.conditions.grants(lane[1:]):
                kept.append(lane)
        self.lanes.extend(kept[::-1])
        self.origins.extend([origin] * len(kept))


def trimmed(context, behind, lanes):
    """Return a state without what makes no difference for its lanes."""
    if not [lane for lane in lanes if lane[0] != END]:
        behind = 0
    if not [lane for lane in lanes if lane[0] != END or lane[1:] != NOTHING]:
        context = BEGINNING
    return context, behind, lanes
