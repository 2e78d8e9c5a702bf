"""Paths through the places of a plain tree, where different ways are different paths, and the loops among them."""

from surespan.cells import cells, least_signs
from surespan.charts import STOP
from surespan.masks import bits_of, mask_of
from surespan.waycharts import way_chart


class WayPaths:
    """The places of the way chart of a plain tree through which whole ways lead, and the steps between them.

    Place 0 is always among them. A step by a sign leads from a place to one that reads the sign.
    """

    def __init__(self, tree):
        places = way_chart(tree)[0]
        self.leasts = least_signs(cells([signs for signs, _ in places if signs]))
        # For each place the mask of the cells that it reads.
        self.cells_read = [
            mask_of([cell for cell, sign in enumerate(self.leasts) if sign in signs]) for signs, _ in places
        ]
        targets = [[target for _, _, target in moves] for _, moves in places]
        self.ends = [place for place, found in enumerate(targets) if STOP in found]
        useful = self.useful_places(targets)
        self.next_places = [[target for target in sorted(set(found)) if target in useful] for found in targets]
        # The pairs of places from the first to the second of which several ways lead by one sign.
        self.doubled = [
            (place, target) for place, found in enumerate(targets) for target in self.next_places[place]
            if found.count(target) > 1
        ]
        self.reached = reached_by(self.next_places)
        # For each place the mask of those with which it is in a loop.
        self.loops = loops_by(self.reached)

    def useful_places(self, targets):
        """Return the list of the places that read signs, that place 0 leads to, and that lead to an end."""
        reach = reached_by([
            [target for target in found if target != STOP and self.cells_read[target]] for found in targets
        ])
        ends = mask_of(self.ends)
        return [place for place in bits_of(reach[0]) if reach[place] & ends or ends >> place & 1]

    def joint_steps(self, places, within):
        """Return the list of the pairs (sign, places behind it) for steps from all places of a tuple by one sign.

        `within` is a tuple with the mask of the places for each of them to which it may lead.
        """
        found = [(-1, ())]
        for place, allowed in zip(places, within):
            targets = [target for target in self.next_places[place] if allowed >> target & 1]
            found = [
                (readers & self.cells_read[target], behind + (target,))
                for readers, behind in found for target in targets if readers & self.cells_read[target]
            ]
        return [(self.leasts[bits_of(readers)[0]], behind) for readers, behind in found]

    def text_between(self, place, other):
        """Return a shortest text that leads from a place to another one; it is empty if both are the same."""
        return path_text((place,), self.single_steps, lambda node: node == (other,))

    def text_to_end(self, place):
        """Return a shortest text that leads from a place to an end."""
        return path_text((place,), self.single_steps, lambda node: node[0] in self.ends)

    def single_steps(self, node):
        """Return the list of the steps from the only place of a tuple."""
        return self.joint_steps(node, (-1,))


def path_text(first, steps, is_goal):
    """Return a shortest text that leads from a node to a goal, or None if there is none.

    `steps` takes a node and returns the list of the pairs (sign, node behind it).
    """
    texts = {first: ""}
    nodes = [first]
    while nodes:
        for node in nodes:
            if is_goal(node):
                return texts[node]
        found = {}
        for node in nodes:
            for sign, after in steps(node):
                if after not in texts:
                    found[after] = True
                    texts[after] = texts[node] + sign
        nodes = list(found)
    return None


def reached_by(after):
    """Return a list with the mask of the numbers for each number to which one or more steps lead from it.

    `after` has for each number the list of the numbers to which one step leads.
    """
    found = [mask_of(targets) for targets in after]
    for middle in range(len(found)):
        for number in range(len(found)):
            if found[number] >> middle & 1:
                found[number] = found[number] | found[middle]
    return found


def loops_by(reach):
    """Return a list with the mask of the numbers for each number that lead to it and to which it leads."""
    return [
        mask_of([other for other in bits_of(mask) if reach[other] >> number & 1]) for number, mask in enumerate(reach)
    ]
