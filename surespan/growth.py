"""How fast the greatest number of whole ways of a plain tree grows with the length of the texts."""

from surespan.masks import bits_of
from surespan.trees import need_plain
from surespan.waypaths import WayPaths, loops_by, path_text, reached_by

# The number of ways grows exponentially if two ways lead from a place back to itself by one text. Otherwise its power
# is the greatest number of links in a chain. A link is a triple (first, last, text): the text leads from the place
# `first` to itself, from `first` to the place `last`, and from `last` to itself; so the text k times has k ways from
# `first` to `last`. In a chain, each link leads to the next one. (Weber and Seidl have shown that this is all.)


def growth(tree):
    """Return the power of growth; 0 if the number of ways is bounded, None if it grows exponentially.

    Raises NotPlain.
    """
    need_plain(tree)
    paths = WayPaths(tree)
    return len(longest_chain(paths)) if doubling_link(paths) is None else None


def pump(tree):
    """Return the tuple of texts that shows the growth of a plain tree. Raises NotPlain."""
    need_plain(tree)
    paths = WayPaths(tree)
    doubling = doubling_link(paths)
    chain = longest_chain(paths) if doubling is None else [doubling]
    if not chain:
        return ()
    texts = []
    place = 0
    for first, last, text in chain:
        texts.extend([paths.text_between(place, first), text])
        place = last
    return tuple([*texts, paths.text_to_end(place)])


def doubling_link(paths):
    """Return a triple (place, place, text) where two ways lead by the text from the place to itself, or None."""
    for place in range(len(paths.next_places)):
        text = None
        if paths.loops[place]:
            text = path_text(
                (place, place, False),
                lambda node: pair_steps(paths, node),
                lambda node: node == (place, place, True),
            )
        if text is not None:
            return place, place, text
    return None


def pair_steps(paths, node):
    """Return the list of the steps of two ways in a loop from a node (place, other place, whether they parted)."""
    place, other, parted = node
    found = []
    for sign, (target, other_target) in paths.joint_steps((place, other), (paths.loops[place], paths.loops[other])):
        parts = target != other_target or (place, target) in paths.doubled
        found.append((sign, (target, other_target, parted or parts)))
    return found


def longest_chain(paths):
    """Return a longest chain as a list of links."""
    chains = []
    # The fewer places can be reached behind a link, the fewer links follow it.
    links = sorted([(len(bits_of(paths.reached[last])), first, last, text) for first, last, text in links_of(paths)])
    for _, first, last, text in links:
        tails = [chain for chain in chains if paths.reached[last] >> chain[0][0] & 1]
        chains.append([(first, last, text), *max(tails, key=len, default=[])])
    return max(chains, key=len, default=[])


def links_of(paths):
    """Return a list with a link between each two loops between which there is one."""
    pairs = [
        (first, last) for first, loop in enumerate(paths.loops) for last in bits_of(paths.reached[first] & ~loop)
        if loop and paths.loops[last]
    ]
    numbers = {pair: number for number, pair in enumerate(pairs)}
    reach = reached_by([
        [numbers[after] for _, after in paths.joint_steps(pair, (paths.loops[pair[0]], paths.loops[pair[1]]))]
        for pair in pairs
    ])
    # If one of several pairs that lead to each other by common texts is a link, all are; so one is looked at.
    groups = sorted(set(loops_by(reach)))
    found = {}
    for group in groups:
        if group:
            first, last = pairs[bits_of(group)[0]]
            between = (paths.loops[first], paths.loops[last])
            text = None if between in found else text_of_link(paths, first, last)
            if text is not None:
                found[between] = (first, last, text)
    return list(found.values())


def text_of_link(paths, first, last):
    """Return the text of a link between two places, or None if there is none."""
    # The places from which the last one can be reached.
    between = sum([1 << place for place, mask in enumerate(paths.reached) if mask >> last & 1])
    return path_text(
        (first, first, last),
        lambda node: paths.joint_steps(node, (paths.loops[first], between, paths.loops[last])),
        lambda node: node == (first, last, last),
    )
