"""The ways of a tree on a text, and their order."""

from surespan.alphabet import WORD_SIGNS
from surespan.plans import END, Plan, followers, meeting_tasks, needed_marks
from surespan.rows import captured_text, copy_end, with_span
from surespan.trees import is_regular

# Stands in place of a task number in an entry of a search that is met when a state has been left for good.
LEFT = -1


def edge_holds(kind, text, index):
    """Return True if the edge holds at the index, otherwise False."""
    before = text[max(index - 1, 0):index]
    after = text[index:index + 1]
    if kind == "start":
        return before == ""
    if kind == "end":
        return after == ""
    if kind == "line start":
        return before in ("", "\n")
    if kind == "line end":
        return after in ("", "\n")
    return (is_word_sign(before) != is_word_sign(after)) == (kind == "word edge")


def is_word_sign(sign):
    """Return True if this is a word sign, otherwise False, also if it is the empty text."""
    return sign != "" and sign in WORD_SIGNS


class Search:
    """Finds the ways of a tree on a text in their order; whole ways only if `whole` is True.

    If `distinct` is True, it finds of several ways with one outcome only the first one. A state of a search is a
    tuple (task, index, still, starts, row, trail). `still` tells whether an iteration that must move has begun at
    this very index. `starts` holds the indexes at which the groups around the task began. `trail` holds the
    numbers of the choices made so far, as a pair of the last one and the trail before it.
    """

    def __init__(self, tree, text, *, whole=False, distinct=False):
        self.plan = Plan(tree)
        self.meeting = meeting_tasks(self.plan.tasks)
        self.needed = needed_marks(self.plan.tasks)
        self.text = text
        # The only index at which a way may end; None if it may end at each index.
        self.goal = len(text) if whole else None
        self.distinct = distinct
        self.stack = []
        # The indexes at which a state leads to no way, and at which one has been met, as bits of a number.
        self.dead = {}
        self.met = {}
        # How often a way has been found, or a state met again that leads to one.
        self.hits = 0
        self.findings = {}
        # For a regular tree all bits are 1 here: its dead states depend on the index alone, and so they are enough.
        self.hopeful = [-1] * len(self.plan.tasks) if is_regular(tree) else self.hopeful_indexes()

    def begin(self, index, row):
        """Begin to search for the ways from an index and a row, when no others are left."""
        self.stack.append((self.plan.first, index, False, (), row, ()))

    def next_way(self):
        """Return the triple (end, row, trail) of the next way, or None if there is none."""
        while self.stack:
            state = self.stack.pop()
            if state[0] == LEFT:
                self.leave(state)
            elif not self.meeting[state[0]] or self.enter(state):
                if state[0] != END:
                    self.stack.extend(self.states_after(state)[::-1])
                elif self.goal in (None, state[1]):
                    self.hits = self.hits + 1
                    return state[1], state[4], state[5]
        return None

    def first_way_from(self, index):
        """Return the outcome of the first way from an index and the row (), or None; no other way is looked for."""
        self.begin(index, ())
        way = self.next_way()
        self.stack = []
        return None if way is None else way[:2]

    def enter(self, state):
        """Return True if it may find something new to go on from a state, otherwise False."""
        number, index, still, starts, row = state[:5]
        marks = tuple([self.value_of(mark, starts, row) for mark in self.needed[number]])
        place = (number, still, marks)
        bit = 1 << index
        if self.dead.get(place, 0) & bit or not self.hopeful[number] & bit:
            return False
        if self.distinct:
            place_with_row = (number, still, starts, row)
            met = self.met.get(place_with_row, 0)
            if met & bit:
                self.hits = self.hits + 1
                return False
            self.met[place_with_row] = met | bit
        self.stack.append((LEFT, place, bit, self.hits))
        return True

    def leave(self, entry):
        """Note that a state leads to no way, unless one has been found since the state was entered."""
        place, bit, hits = entry[1:]
        if hits == self.hits:
            self.dead[place] = self.dead.get(place, 0) | bit

    def value_of(self, mark, starts, row):
        """Return what a state with these starts and this row has at a mark (`needed_marks`)."""
        kind, key = mark
        return starts[key] if kind == "slot" else captured_text(row, self.text, key)

    def states_after(self, state):
        """Return the list of the states to which the task of a state leads, in their order."""
        number, index, still, starts, row, trail = state
        task = self.plan.tasks[number]
        kind, after = task[0], task[-1]
        if kind == "set":
            if index == len(self.text) or self.text[index] not in task[1]:
                return []
            return [(after, index + 1, False, starts, row, trail)]
        if kind == "choice":
            return [(first, index, still, starts, row, (at, trail)) for at, first in enumerate(after)]
        if kind == "begin":
            return [(after, index, True, starts, row, trail)]
        if kind == "store":
            return [(after, index, still, starts + (index,), row, trail)]
        if kind == "close":
            return [(after, index, still, starts[:-1], with_span(row, task[2], starts[-1], index), trail)]
        if kind == "same":
            end = copy_end(row, self.text, task[1], index)
            return [] if end is None else [(after, end, still and end == index, starts, row, trail)]
        return [(after, index, still, starts, row, trail)] if self.may_pass(task, index, still) else []

    def may_pass(self, task, index, still):
        """Return True if a task that reads nothing and marks nothing may be passed, otherwise False."""
        # An outer iteration that must move has begun no later than an inner one. So if one has begun at this very
        # index, the innermost one has, and it is the first that would have to end.
        if task[0] == "moved":
            return not still
        if task[0] == "edge":
            return edge_holds(task[1], self.text, index)
        return self.look_finds(task[1], index) == task[2]

    def look_finds(self, number, index):
        """Return True if the look with this number finds its body at the index, otherwise False."""
        if number not in self.findings:
            side, body = self.plan.looks[number]
            self.findings[number] = look_findings(side, body, self.text)
        return self.findings[number][index]

    def hopeful_indexes(self):
        """Return a list with the indexes, as bits of a number, from which each task may lead to the end of a way.

        From no other index does it do so, even if each `same` could read any text and no iteration had to move.
        """
        tasks = self.plan.tasks
        passable = [self.passable_indexes(task) for task in tasks]
        hopeful = [0] * len(tasks)
        hopeful[END] = passable[END]
        changed = True
        while changed:
            changed = False
            for number, task in enumerate(tasks):
                bits = hopeful[number]
                for after in followers(task):
                    bits = bits | (indexes_before(task, hopeful[after]) & passable[number])
                if bits != hopeful[number]:
                    hopeful[number] = bits
                    changed = True
        return hopeful

    def passable_indexes(self, task):
        """Return the indexes at which a task is passable, as bits of a number."""
        return sum([1 << index for index in range(len(self.text) + 1) if self.is_passable(task, index)])

    def is_passable(self, task, index):
        """Return False if a task surely lets no way go on at the index, whatever has been read and captured before."""
        if task[0] == "end":
            return self.goal in (None, index)
        if task[0] == "set":
            return index < len(self.text) and self.text[index] in task[1]
        return task[0] not in ("edge", "look") or self.may_pass(task, index, False)


def indexes_before(task, bits):
    """Return the indexes from which a task may lead to those for which `bits` stands, as bits of a number."""
    if task[0] == "set":
        return bits >> 1
    if task[0] == "same":
        return (1 << bits.bit_length()) - 1
    return bits


def look_findings(side, body, text):
    """Return a list that tells for each index of the text whether a look to this side finds the body there."""
    search = Search(body, text, distinct=True)
    begun = []
    ended = [False] * (len(text) + 1)
    for index in range(len(text) + 1):
        hits = search.hits
        search.begin(index, ())
        way = search.next_way()
        while way is not None:
            ended[way[0]] = True
            way = search.next_way()
        # A state that an earlier search has met is not searched again, but counts as a hit if it leads to a way.
        begun.append(search.hits > hits)
    return begun if side == "ahead" else ended


def outcomes(tree, text, index=0, captures=()):
    """Return the list of the outcomes (end, row) from the index and the capture row, each once, in their order."""
    search = Search(tree, text, distinct=True)
    search.begin(index, captures)
    found = []
    way = search.next_way()
    while way is not None:
        found.append(way[:2])
        way = search.next_way()
    return found


def first_way(tree, text, index=0, *, whole=False):
    """Return the outcome (end, row) of the first way from the index, or of the first whole way, or None."""
    return Search(tree, text, whole=whole).first_way_from(index)


def first_answer(tree, text, start=0):
    """Return the first answer (start, end, row) from the start index, or None."""
    search = Search(tree, text)
    for index in range(start, len(text) + 1):
        way = search.first_way_from(index)
        if way is not None:
            return (index,) + way
    return None


def accepts(tree, text):
    """Return True if the tree accepts the text, otherwise False."""
    return first_way(tree, text, whole=True) is not None
