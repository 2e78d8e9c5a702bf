"""Accepted texts that few edits part from given texts."""

from surespan.cells import cell_of
from surespan.leastmachine import minimized
from surespan.machinejoins import accepting_mask, image
from surespan.machines import machine_of
from surespan.machinetree import live_states
from surespan.masks import bits_of, mask_of


def nearest(machine, text):
    """Return the pair of the least distance of an accepted text and the least such text, or None if there is none."""
    edits = Edits(minimized(machine), text)
    if 0 not in edits.live:
        return None
    return edits.costs[0][0] // edits.scale, edits.least_text()


class Edits:
    """The edits that lead from the rests of a text to texts that lead from states to accepting ones.

    The cost of such a text is the number of edits times `scale` plus its length. So the least cost stands for the
    least length among the texts with the least number of edits. Only the states are looked at from which some text
    leads to an accepting one.
    """

    def __init__(self, machine, text):
        self.machine = machine
        self.text = text
        self.live = live_states(machine)
        # No text needs more edits than to delete all signs and to insert one new sign for each state.
        self.scale = 2 * (len(text) + len(machine.rows)) + 1
        # For each state the states that single signs lead to, and the least of these signs.
        self.signs_to = {state: self.least_signs_to(state) for state in self.live}
        self.matches = {sign: self.states_after(sign) for sign in sorted(set(text))}
        self.insertions = {state: self.insertions_to(state) for state in self.live}
        # For each index the dict from the states to the least costs for the rest of the text.
        self.costs = [{} for _ in range(len(text) + 1)]
        for index in range(len(text), -1, -1):
            self.costs[index] = self.costs_at(index)

    def least_signs_to(self, state):
        """Return the dict from the live states that follow a state to the least signs that lead there."""
        found = {}
        for cell, target in enumerate(self.machine.rows[state]):
            if target in self.live and target not in found:
                found[target] = self.machine.cells[cell][0]
        return found

    def states_after(self, sign):
        """Return the dict from the states to those live ones that the sign leads to."""
        cell = cell_of(self.machine.cells, sign)
        found = {state: self.machine.rows[state][cell] for state in self.live}
        return {state: target for state, target in found.items() if target in self.live}

    def insertions_to(self, state):
        """Return the dict from the states that texts lead to from a state to the least numbers of their signs."""
        found = {state: 0}
        reached = [state]
        while reached:
            later = [target for source in reached for target in self.signs_to[source] if target not in found]
            count = found[reached[0]] + 1
            reached = sorted(set(later))
            for target in reached:
                found[target] = count
        return found

    def costs_at(self, index):
        """Return the dict from the states to the least costs for the rest of the text from the index."""
        beginnings = self.costs_without_insertion(index)
        return {
            state: min([
                count * (self.scale + 1) + beginnings[target] for target, count in self.insertions[state].items()
                if target in beginnings
            ])
            for state in self.live
        }

    def costs_without_insertion(self, index):
        """Return the dict from the states to the least costs, for texts whose first sign is not inserted."""
        if index == len(self.text):
            return {state: 0 for state in self.live if self.machine.accepting[state]}
        after = self.costs[index + 1]
        matches = self.matches[self.text[index]]
        found = {}
        for state in self.live:
            costs = [self.scale + after[state]]
            costs.extend([self.scale + 1 + after[target] for target in self.signs_to[state]])
            if state in matches:
                costs.append(1 + after[matches[state]])
            found[state] = min(costs)
        return found

    def least_text(self):
        """Return the least text with the least cost."""
        found = ""
        nodes = self.with_deletions([(0, 0)])
        # All nodes, pairs of an index and a state, need texts of one length.
        while self.cost(nodes[0]) % self.scale:
            moves = [move for node in nodes for move in self.moves_from(node)]
            sign = min([move[0] for move in moves])
            found = found + sign
            nodes = self.with_deletions(sorted(set([move[1] for move in moves if move[0] == sign])))
        return found

    def cost(self, node):
        """Return the least cost at a node."""
        return self.costs[node[0]][node[1]]

    def with_deletions(self, nodes):
        """Return the list of the nodes, and of those that deletions lead to without any loss."""
        found = {node: True for node in nodes}
        for index, state in nodes:
            while index < len(self.text) and self.cost((index, state)) == self.scale + self.cost((index + 1, state)):
                index = index + 1
                found[index, state] = True
        return list(found)

    def moves_from(self, node):
        """Return the list of the pairs (sign, node) of the steps by one sign from a node that keep the cost least."""
        index, state = node
        cost = self.cost(node)
        steps = [(sign, (index, target), self.scale + 1) for target, sign in self.signs_to[state].items()]
        if index < len(self.text):
            steps.extend([
                (sign, (index + 1, target), self.scale + 1) for target, sign in self.signs_to[state].items()
            ])
            matches = self.matches[self.text[index]]
            if state in matches:
                steps.append((self.text[index], (index + 1, matches[state]), 1))
        return [(sign, after) for sign, after, added in steps if added + self.cost(after) == cost]


def machine_within(machine, distance):
    """Return the least form for the texts whose distance to some accepted text is at most the given distance."""
    least = minimized(machine)
    edited = EditedTexts(least)
    goals = accepting_mask(least)
    return minimized(machine_of(
        least.cells, edited.before_first(distance), edited.after,
        lambda masks: masks[-1] & goals != 0,
    ))


class EditedTexts:
    """The states of a machine to which a text leads if it is edited.

    They are a tuple of masks: the mask at number k has the states to which those texts lead that can be made by at
    most k edits of the text that has been read.
    """

    def __init__(self, machine):
        self.machine = machine
        self.images = {}
        self.spreads = {}

    def before_first(self, distance):
        """Return the masks for the empty text, up to a number of edits."""
        found = [1]
        for _ in range(distance):
            found.append(self.spread(found[-1]))
        return tuple(found)

    def after(self, masks, cell):
        """Return the masks behind one more sign, which is in the cell."""
        found = [self.image_of(masks[0], cell)]
        for fewer, mask in zip(masks, masks[1:]):
            # The sign itself has been deleted or replaced, or a sign has been inserted behind it.
            edited = self.spread(fewer) | self.spread(found[-1])
            found.append(self.image_of(mask, cell) | edited)
        return tuple(found)

    def spread(self, mask):
        """Return the mask of the states in a mask and of all that single signs lead to from them."""
        if mask not in self.spreads:
            targets = [target for state in bits_of(mask) for target in self.machine.rows[state]]
            self.spreads[mask] = mask | mask_of(sorted(set(targets)))
        return self.spreads[mask]

    def image_of(self, mask, cell):
        """Return the mask of the states that the cell leads to from those in a mask."""
        if (mask, cell) not in self.images:
            self.images[mask, cell] = image(self.machine, mask, cell)
        return self.images[mask, cell]
