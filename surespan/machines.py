"""Machines: complete deterministic automata over the signs."""


class Machine:
    """A machine with the tuples `cells`, `rows` and `accepting`; it begins in state 0."""

    def __init__(self, cells, rows, accepting):
        self.cells = cells
        self.rows = rows
        self.accepting = accepting

    def accepts(self, text):
        """Return True if the machine accepts the text, otherwise False."""
        return self.accepting[self.state_after(text)]

    def state_after(self, text):
        """Return the state that the text leads to from state 0."""
        numbers = {sign: number for number, cell in enumerate(self.cells) for sign in cell}
        state = 0
        for sign in text:
            state = self.rows[state][numbers[sign]]
        return state

    def __len__(self):
        return len(self.rows)

    def __eq__(self, other):
        return (
            isinstance(other, Machine) and self.cells == other.cells and self.rows == other.rows
            and self.accepting == other.accepting
        )


def machine_of(cell_texts, first, step, is_accepting):
    """Return the machine over a division whose states are `first` and all that steps lead to from there.

    `step` takes a state and the number of a cell and returns a state; `is_accepting` takes a state. States are such
    values as can be keys of a dict. They are numbered in the order in which a breadth-first walk meets them.
    """
    numbers = {first: 0}
    met = [first]
    rows = []
    while len(rows) < len(met):
        row = []
        for cell in range(len(cell_texts)):
            after = step(met[len(rows)], cell)
            if after not in numbers:
                numbers[after] = len(met)
                met.append(after)
            row.append(numbers[after])
        rows.append(tuple(row))
    return Machine(tuple(cell_texts), tuple(rows), tuple([is_accepting(state) for state in met]))
