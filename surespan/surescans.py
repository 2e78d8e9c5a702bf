"""Sure scans: the answers of the scan of a text that arrives sign by sign which no further sign can change."""

from surespan.conditions import NOTHING
from surespan.doubts import DoubtHunt
from surespan.flowstates import FlowStates
from surespan.grounds import BEGINNING, END
from surespan.loads import load_after, loads_behind, new_load
from surespan.scanning import next_start


class Course:
    """The walks that begin at a start index or later, as far as the signs have been read."""

    def __init__(self, flow_states, start, context, behind):
        self.flow_states = flow_states
        self.number = flow_states.number_of((context, behind, (flow_states.flow.first_lane,)))
        self.loads = [new_load(start)]
        self.index = start

    def read(self, cell):
        """Read a sign of the cell."""
        self.number, origins = self.flow_states.step(self.number, cell)
        self.loads = loads_behind(self.loads, self.flow_states.lanes_of(self.number), origins, self.index)
        self.index = self.index + 1

    def is_decided(self):
        """Return True if what follows surely makes no difference, otherwise False."""
        return self.flow_states.lanes_of(self.number)[0] == (END,) + NOTHING

    def answer(self):
        """Return the first answer (start, end, row) if the text ends here, or None."""
        found = self.flow_states.result(self.number)
        return None if found is None else load_after(self.loads, found, self.index, True)[:3]


class SureScan:
    """Finds the answers of the scan of a text that are sure as soon as its signs have been read."""

    def __init__(self, tree):
        self.flow_states = FlowStates(tree, "search")
        self.ground = self.flow_states.flow.ground
        self.hunt = DoubtHunt(self.ground)
        # For each place the marks of the moves with which walks come to an end there.
        self.end_marks = [[marks for _, _, _, marks, target in moves if target == END] for moves in self.ground.moves]
        self.cells_read = []
        # For each index the context and the places in which walks of looks behind stand.
        self.surroundings = [(BEGINNING, 0)]
        # Where the search for the next answer begins, and how far it has come; it has not begun if this is None.
        self.start = 0
        self.course = None
        # The least texts that have been found, by what they depend on.
        self.changes = {}

    def read(self, text):
        """Read more signs."""
        for sign in text:
            cell = self.flow_states.flow.cell_numbers[sign]
            self.surroundings.append(self.surroundings_behind(cell))
            self.cells_read.append(cell)

    def surroundings_behind(self, cell):
        """Return the context and the places of looks behind if a sign of the cell follows."""
        context, behind = self.surroundings[-1]
        return self.ground.contexts[cell], self.ground.behind_after(context, behind, cell)

    def next_sure(self):
        """Return the next answer if it is sure, and go on behind it; otherwise return None."""
        answer = self.present_answer()
        if answer is None or not (self.course.is_decided() or self.change_of(answer) is None):
            return None
        self.start = next_start(answer[0], answer[1])
        self.course = None
        return answer

    def present_answer(self):
        """Return the next answer if the text ends here, or None."""
        count = len(self.cells_read)
        if self.course is None and self.start <= count:
            context, behind = self.surroundings[self.start]
            self.course = Course(self.flow_states, self.start, context, behind)
        if self.course is None:
            return None
        while self.course.index < count and not self.course.is_decided():
            self.course.read(self.cells_read[self.course.index])
        return self.course.answer()

    def doubt(self):
        """Return the least text that gives another next answer, or None; no answer may be sure any more."""
        answer = self.present_answer()
        return self.change_of_none() if answer is None else self.change_of(answer)

    def change_of(self, answer):
        """Return the least text that changes the next answer, which is found if the text ends here, or None."""
        key = (self.course.number, self.endings_like(answer))
        if key not in self.changes:
            beginnings = [
                (sign,) + self.surroundings_behind(cell) + (self.nodes_with_change(cell, answer),)
                for cell, sign in enumerate(self.ground.leasts)
            ]
            self.changes[key] = self.hunt.least_text_of(beginnings)
        return self.changes[key]

    def endings_like(self, answer):
        """Return a tuple that tells for each lane with which of its possible ends here it has the answer."""
        found = []
        for number, (place, _, _) in enumerate(self.flow_states.lanes_of(self.course.number)):
            endings = [()] if place == END else self.end_marks[place]
            found.append(tuple([self.is_same(answer, (number, marks)) for marks in endings]))
        return tuple(found)

    def is_same(self, answer, origin):
        """Return True if a walk has the answer that goes on as an origin tells and ends here at the latest."""
        return load_after(self.course.loads, origin, self.course.index, True)[:3] == answer

    def nodes_with_change(self, cell, answer):
        """Return the list of the nodes behind a sign of the cell at which the answer is not the next one."""
        number, origins = self.flow_states.step(self.course.number, cell)
        lanes = self.flow_states.lanes_of(number)
        same = [lane[0] == END and self.is_same(answer, origin) for lane, origin in zip(lanes, origins)]
        return self.hunt.nodes_with_change(lanes, same)

    def change_of_none(self):
        """Return the least text that gives a next answer, where there is none if the text ends here, or None."""
        if self.course is not None:
            key = (self.course.number, None)
            beginnings = [
                ("",) + self.surroundings[-1] + (self.hunt.nodes_with_answer(self.flow_states.lanes_of(key[0])),)
            ]
        else:
            key = (None, self.surroundings[-1])
            beginnings = [
                (sign,) + self.surroundings_behind(cell) + (self.hunt.nodes_with_answer(()),)
                for cell, sign in enumerate(self.ground.leasts)
            ]
        if key not in self.changes:
            self.changes[key] = self.hunt.least_text_of(beginnings)
        return self.changes[key]
