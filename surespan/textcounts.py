"""How many texts a machine accepts, which ones they are, and which lengths they have."""

from surespan.alphabet import SIGNS
from surespan.errors import NoSuchText
from surespan.machinetree import live_states


class TextCounts:
    """The numbers of the texts that lead from the states of a machine to accepting states, by their lengths."""

    def __init__(self, machine):
        cell_numbers = {sign: number for number, cell in enumerate(machine.cells) for sign in cell}
        self.states_by_sign = [{sign: row[cell_numbers[sign]] for sign in SIGNS} for row in machine.rows]
        live = live_states(machine)
        # For each state the pairs (sign, state behind it) with which accepted texts go on, in the order of the signs.
        self.steps = [[(sign, row[sign]) for sign in row if row[sign] in live] for row in self.states_by_sign]
        self.sizes = [sizes_of_targets(machine.cells, row) for row in machine.rows]
        self.counts = [[1 if accepting else 0 for accepting in machine.accepting]]
        # If no text with one of this many lengths in a row is accepted, no longer text is.
        self.gap = len(machine.rows)

    def total(self, length, state):
        """Return the number of the texts of this length that lead from the state to an accepting one."""
        while length >= len(self.counts):
            last = self.counts[-1]
            self.counts.append([sum([last[target] * size for target, size in sizes]) for sizes in self.sizes])
        return self.counts[length][state]

    def text_with(self, length, number):
        """Return the accepted text with a number among those of this length, in text order."""
        found = ""
        state = 0
        while len(found) < length:
            for sign, target in self.steps[state]:
                count = self.total(length - len(found) - 1, target)
                if number < count:
                    found = found + sign
                    state = target
                    break
                number = number - count
        return found

    def number_before(self, text):
        """Return the number of the accepted texts of the same length that precede a text."""
        found = 0
        state = 0
        for index, sign in enumerate(text):
            rest = len(text) - index - 1
            found = found + sum([self.total(rest, target) for other, target in self.steps[state] if other < sign])
            state = self.states_by_sign[state][sign]
        return found


def sizes_of_targets(cell_texts, row):
    """Return the list of the pairs (state, number of the signs that lead to it) for a row of a machine."""
    found = {}
    for signs, target in zip(cell_texts, row):
        found[target] = found.get(target, 0) + len(signs)
    return list(found.items())


def count_texts(machine, length):
    """Return the number of the accepted texts of a length."""
    return TextCounts(machine).total(length, 0)


def text_at(machine, number):
    """Return the accepted text with a number, in text order; raise NoSuchText if there are too few."""
    counts = TextCounts(machine)
    rest = number
    length = 0
    barren = 0
    while barren < counts.gap:
        count = counts.total(length, 0)
        if rest < count:
            return counts.text_with(length, rest)
        rest = rest - count
        length = length + 1
        barren = 0 if count else barren + 1
    raise NoSuchText(number - rest)


def number_of(machine, text):
    """Return the number of the accepted texts that precede a text."""
    counts = TextCounts(machine)
    shorter = sum([counts.total(length, 0) for length in range(len(text))])
    return shorter + counts.number_before(text)


def accepted_texts(machine, count):
    """Yield the first accepted texts in text order, at most `count` of them."""
    counts = TextCounts(machine)
    rest = count
    length = 0
    barren = 0
    while rest > 0 and barren < counts.gap:
        found = counts.total(length, 0)
        for number in range(min(found, rest)):
            yield counts.text_with(length, number)
        rest = rest - found
        length = length + 1
        barren = 0 if found else barren + 1


def length_cycle(machine):
    """Return the pair (head, loop) of tuples that tell which lengths accepted texts have."""
    told, first = told_lengths(machine)
    length = shortest_period(told[first:])
    # The head is as short as can be: what it ends with must not be what the loop gives there.
    while first > 0 and told[first - 1] == told[first + length - 1]:
        first = first - 1
    return tuple(told[:first]), tuple(told[first:first + length])


def told_lengths(machine):
    """Return a list that tells for the lengths from 0 whether texts are accepted, and a number.

    From the length with this number on, the list is what comes again and again.
    """
    targets = [sorted(set(row)) for row in machine.rows]
    states = (0,)
    met = {}
    told = []
    while states not in met:
        met[states] = len(told)
        told.append(any([machine.accepting[state] for state in states]))
        states = tuple(sorted(set([target for state in states for target in targets[state]])))
    return told, met[states]


def shortest_period(loop):
    """Return the least length of a part of which a list consists if the part is repeated."""
    for length in range(1, len(loop)):
        if len(loop) % length == 0 and loop == loop[:length] * (len(loop) // length):
            return length
    return len(loop)
