"""The least forms of machines, and the least machines of trees."""

from surespan.machines import machine_of
from surespan.powersets import Powerset


def least_machine(tree):
    """Return the least form of a machine that accepts the same texts as the tree. Raises NotRegular."""
    powerset = Powerset(tree)
    first = powerset.first_state
    return minimized(machine_of(powerset.ground.cell_texts, first, powerset.after, powerset.is_accepting))


def minimized(machine):
    """Return the least form of a machine."""
    reached = reached_part(machine)
    blocks = Blocks(reached).numbers
    # One state of each block stands for it.
    rows = {block: reached.rows[state] for state, block in enumerate(blocks)}
    accepting = {block: reached.accepting[state] for state, block in enumerate(blocks)}
    columns = {}
    for cell, text in enumerate(reached.cells):
        column = tuple([blocks[rows[block][cell]] for block in rows])
        columns.setdefault(column, []).append(cell)
    merged = list(columns.values())
    texts = ["".join(sorted("".join([reached.cells[number] for number in numbers]))) for numbers in merged]
    return machine_of(
        texts, blocks[0],
        lambda block, number: blocks[rows[block][merged[number][0]]],
        lambda block: accepting[block],
    )


def reached_part(machine):
    """Return the machine without the states that no text leads to."""
    return machine_of(
        machine.cells, 0,
        lambda state, cell: machine.rows[state][cell],
        lambda state: machine.accepting[state],
    )


class Blocks:
    """The division of the states of a machine into blocks: a text parts two states if they are in different blocks.

    It begins with the accepting states and the others. Then each block in turn cuts all blocks of which only some
    states lead into it. If a block is cut that has had its turn, only the smaller part needs another one.
    """

    def __init__(self, machine):
        self.numbers = [1 if accepting else 0 for accepting in machine.accepting]
        self.blocks = [[], []]
        for state, number in enumerate(self.numbers):
            self.blocks[number].append(state)
        # For each cell and state the states that the cell leads to it from.
        self.origins_by_cell = [[[] for _ in machine.rows] for _ in machine.cells]
        for state, row in enumerate(machine.rows):
            for cell, target in enumerate(row):
                self.origins_by_cell[cell][target].append(state)
        self.waiting = [0, 1]
        self.is_waiting = [True, True]
        while self.waiting:
            number = self.waiting.pop()
            self.is_waiting[number] = False
            self.cut_by(list(self.blocks[number]))

    def cut_by(self, states):
        """Cut all blocks of which only some states lead to these states."""
        for sources in self.origins_by_cell:
            leading = {}
            for state in [source for target in states for source in sources[target]]:
                leading.setdefault(self.numbers[state], []).append(state)
            for number, part in leading.items():
                if len(part) < len(self.blocks[number]):
                    self.cut(number, part)

    def cut(self, number, part):
        """Make a new block of some of the states of a block."""
        fresh = len(self.blocks)
        self.blocks.append(part)
        for state in part:
            self.numbers[state] = fresh
        rest = [state for state in self.blocks[number] if self.numbers[state] == number]
        self.blocks[number] = rest
        chosen = fresh if self.is_waiting[number] or len(part) <= len(rest) else number
        self.is_waiting.append(False)
        self.is_waiting[chosen] = True
        self.waiting.append(chosen)
