"""Differences: what two walks that are followed side by side have captured differently."""

from surespan.masks import bits_of, mask_of


class Differences:
    """Keeps masks of the differences between two walks on a ground.

    In a mask a bit stands for a name, or for a slot of the first walk and one of the second walk: it is 1 if the names
    are not set alike, or if the slots hold different indexes.
    """

    def __init__(self, ground):
        self.ground = ground
        marks = [mark for moves in ground.moves for move in moves for mark in move[3]]
        self.names = sorted(set([mark[2] for mark in marks if mark[0] == "close"]))
        self.slots = 1 + max([mark[1] for mark in marks], default=-1)
        self.needed_slots = self.find_needed_slots()
        self.name_bits = (1 << len(self.names)) - 1
        self.effects = {}
        self.kept_bits = {}

    def find_needed_slots(self):
        """Return a list with the mask of those slots for each place that hold an index which is needed there."""
        needed = [0] * len(self.ground.moves)
        changed = True
        while changed:
            changed = False
            for place, moves in enumerate(self.ground.moves):
                found = needed[place]
                for _, _, _, marks, target in moves:
                    found = found | slots_before(marks, needed[target])
                if found != needed[place]:
                    needed[place] = found
                    changed = True
        return needed

    def slot_bit(self, slot, other):
        """Return the number of the bit for two slots."""
        return len(self.names) + slot * self.slots + other

    def after(self, differing, marks, other_marks, pair):
        """Return the differences behind a move of each walk with these marks, at one index, to the places of `pair`."""
        if not marks and not other_marks:
            return differing & self.bits_of_pair(pair)
        stored, closed = self.effect_of(marks)
        other_stored, other_closed = self.effect_of(other_marks)
        found = 0
        for number, name in enumerate(self.names):
            slot, other = closed.get(name), other_closed.get(name)
            if slot is None and other is None:
                bit = differing >> number & 1
            elif slot is None or other is None:
                # An index at which a group ended before is less than this one.
                bit = 1
            elif slot < 0 or other < 0:
                bit = 1 if slot != other else 0
            else:
                bit = differing >> self.slot_bit(slot, other) & 1
            found = found | bit << number
        for slot in range(self.slots):
            for other in range(self.slots):
                number = self.slot_bit(slot, other)
                if slot in stored or other in other_stored:
                    bit = 0 if slot in stored and other in other_stored else 1
                else:
                    bit = differing >> number & 1
                found = found | bit << number
        return found & self.bits_of_pair(pair)

    def effect_of(self, marks):
        """Return the pair (slots stored, names closed) for marks at one index.

        The first item is a dict with the slots as its keys. The second one has for each name the slot from which it
        got its start, or -1 if that was stored at this very index.
        """
        if marks not in self.effects:
            stored, closed = {}, {}
            for mark in marks:
                if mark[0] == "store":
                    stored[mark[1]] = True
                else:
                    closed[mark[2]] = -1 if mark[1] in stored else mark[1]
            self.effects[marks] = (stored, closed)
        return self.effects[marks]

    def bits_of_pair(self, pair):
        """Return the mask of the bits that matter if the walks stand at these two places."""
        if pair not in self.kept_bits:
            first, second = pair
            slots = [
                self.slot_bit(slot, other)
                for slot in bits_of(self.needed_slots[first]) for other in bits_of(self.needed_slots[second])
            ]
            self.kept_bits[pair] = self.name_bits | mask_of(slots)
        return self.kept_bits[pair]


def slots_before(marks, needed):
    """Return the mask of the slots that must hold an index before these marks, if `needed` is that behind them."""
    for mark in marks[::-1]:
        if mark[0] == "store":
            needed = needed & ~(1 << mark[1])
        else:
            needed = needed | 1 << mark[1]
    return needed
