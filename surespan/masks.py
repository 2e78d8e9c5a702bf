"""Masks: integers whose bits stand for numbered things."""


def bits_of(mask):
    """Return the list of the numbers of the bits that are 1, in ascending order."""
    found = []
    while mask:
        lowest = mask & -mask
        found.append(lowest.bit_length() - 1)
        mask = mask ^ lowest
    return found


def mask_of(numbers):
    """Return the mask in which the bits with the numbers of a list are 1."""
    found = 0
    for number in numbers:
        found = found | 1 << number
    return found


def joined(mask, table):
    """Return the union of the masks that a table holds for the bits of a mask."""
    found = 0
    for number in bits_of(mask):
        found = found | table[number]
    return found
