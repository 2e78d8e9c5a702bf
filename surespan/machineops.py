"""Machines that accept other texts than given ones, and texts that lead to states or part them."""

from surespan.cells import cell_of, cells
from surespan.leastmachine import minimized
from surespan.machines import Machine, machine_of


def opposite(machine):
    """Return the least form of a machine that accepts exactly the texts that the machine does not accept."""
    return minimized(Machine(machine.cells, machine.rows, tuple([not accepting for accepting in machine.accepting])))


def both(machine, other):
    """Return the least form of a machine that accepts the texts that both machines accept."""
    return combined(machine, other, lambda one, two: one and two)


def either(machine, other):
    """Return the least form of a machine that accepts the texts that at least one of the machines accepts."""
    return combined(machine, other, lambda one, two: one or two)


def without(machine, other):
    """Return the least form of a machine that accepts the texts that the first machine alone accepts."""
    return combined(machine, other, lambda one, two: one and not two)


def combined(machine, other, joining):
    """Return the least form of the machine that runs two machines at once.

    `joining` tells from what the two say of a text whether the result accepts it.
    """
    division, numbers, other_numbers = common_division(machine, other)
    return minimized(machine_of(
        division, (0, 0),
        lambda pair, cell: (machine.rows[pair[0]][numbers[cell]], other.rows[pair[1]][other_numbers[cell]]),
        lambda pair: joining(machine.accepting[pair[0]], other.accepting[pair[1]]),
    ))


def common_division(machine, other):
    """Return the division of the cells of two machines, and for each of its cells the number of the cell of each."""
    division = cells([*machine.cells, *other.cells])
    numbers = [cell_of(machine.cells, cell[0]) for cell in division]
    other_numbers = [cell_of(other.cells, cell[0]) for cell in division]
    return division, numbers, other_numbers


def reach_text(machine, state):
    """Return the least text that leads from state 0 to the state, or None."""
    return least_path(
        machine, 0,
        lambda met, cell: machine.rows[met][cell],
        lambda met: met == state,
    )


def part_text(machine, state, other):
    """Return the least text that leads from exactly one of two states to an accepting state, or None."""
    return least_path(
        machine, (state, other),
        lambda pair, cell: (machine.rows[pair[0]][cell], machine.rows[pair[1]][cell]),
        lambda pair: machine.accepting[pair[0]] != machine.accepting[pair[1]],
    )


def least_path(machine, first, step, is_goal):
    """Return the least text whose steps lead from `first` to a goal, or None."""
    met = {first: True}
    waiting = [(first, "")]
    while waiting:
        later = []
        for place, text in list(waiting):
            if is_goal(place):
                return text
            for cell, signs in enumerate(machine.cells):
                after = step(place, cell)
                if after not in met:
                    met[after] = True
                    later.append((after, text + signs[0]))
        waiting = later
    return None
