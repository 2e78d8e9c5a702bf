"""Machines for texts that are put together from accepted texts, turned round, or cut."""

from surespan.leastmachine import minimized
from surespan.machineops import common_division
from surespan.machines import Machine, machine_of
from surespan.machinetree import live_states
from surespan.masks import bits_of, mask_of

# Several states of a machine at once are a mask.


def joined(machine, other):
    """Return the least form for the texts u + v where the first machine accepts u and the second one accepts v."""
    first, second = minimized(machine), minimized(other)
    division, numbers, other_numbers = common_division(first, second)
    goals = accepting_mask(second)
    # Beside the state behind the whole text stand those behind its ends v, for each way to cut it.
    return minimized(machine_of(
        division, (0, beginning_of_next(first, 0)),
        lambda pair, cell: step_of_joined(first, second, pair, numbers[cell], other_numbers[cell]),
        lambda pair: pair[1] & goals != 0,
    ))


def step_of_joined(first, second, pair, cell, other_cell):
    """Return the pair (state of the first machine, states of the second one) behind one more sign."""
    state, mask = pair
    after = first.rows[state][cell]
    return after, image(second, mask, other_cell) | beginning_of_next(first, after)


def beginning_of_next(machine, state):
    """Return the mask of the states in which a text can begin that follows one which leads to the state."""
    return 1 if machine.accepting[state] else 0


def image(machine, mask, cell):
    """Return the mask of the states to which a cell leads from those in a mask."""
    return mask_of([machine.rows[state][cell] for state in bits_of(mask)])


def accepting_mask(machine):
    """Return the mask of the accepting states."""
    return mask_of([state for state, accepting in enumerate(machine.accepting) if accepting])


def starred(machine):
    """Return the least form for the empty text and the texts that are one accepted text behind the other."""
    least = minimized(machine)
    goals = accepting_mask(least)
    # The empty text is told apart, as it is accepted in any case.
    return minimized(machine_of(
        least.cells, (True, 1),
        lambda state, cell: (False, with_restart(image(least, state[1], cell), goals)),
        lambda state: state[0] or state[1] & goals != 0,
    ))


def with_restart(mask, goals):
    """Return the mask with state 0 in it if a state of the mask is among the goals."""
    return mask | 1 if mask & goals else mask


def mirrored(machine):
    """Return the least form for the reversals of the accepted texts."""
    least = minimized(machine)
    # Behind a text, a mask has the states from which its reversal leads to an accepting one.
    return minimized(machine_of(
        least.cells, accepting_mask(least),
        lambda mask, cell: mask_of([state for state, row in enumerate(least.rows) if mask >> row[cell] & 1]),
        lambda mask: mask & 1 == 1,
    ))


def beginnings(machine):
    """Return the least form for the texts with which accepted texts begin."""
    live = live_states(machine)
    accepting = tuple([state in live for state in range(len(machine.rows))])
    return minimized(Machine(machine.cells, machine.rows, accepting))


def quotient(machine, text):
    """Return the least form for the texts that make accepted texts if they follow the given text."""
    return minimized(machine_of(
        machine.cells, machine.state_after(text),
        lambda state, cell: machine.rows[state][cell],
        lambda state: machine.accepting[state],
    ))
