"""Trees for the tests, made by hand and by a seeded generator."""

import random

from surespan.alphabet import SIGNS, WORD_SIGNS
from surespan.cells import cells
from surespan.errors import BadTree
from surespan.machines import Machine
from surespan.measures import weight
from surespan.trees import check_tree, node_at, paths, with_node

A, B, C = ("set", "a"), ("set", "b"), ("set", "c")
EMPTY = ("empty",)
NOTHING = ("set", "")
EDGE_KINDS = ["start", "end", "line start", "line end", "word edge", "no word edge"]


def seq(*parts):
    return ("seq", parts)


def alt(*branches):
    return ("alt", branches)


def repeat(body, least, most, lazy=False):
    return ("repeat", body, least, most, lazy)


def group(name, body):
    return ("group", name, body)


def look(body, side="ahead", wanted=True):
    return ("look", side, wanted, body)


def edge(kind):
    return ("edge", kind)


def same(name):
    return ("same", name)


class Growing:
    """Makes well-formed trees at random, always the same ones for one seed."""

    def __init__(self, seed, signs="ab", kinds=("look", "edge", "same")):
        self.chance = random.Random(seed)
        self.signs = signs
        self.kinds = kinds
        self.groups = []

    def tree(self, depth):
        self.groups = []
        return self.grow(depth, False)

    def grow(self, depth, in_look):
        choices = ["set", "set", "set", "empty"]
        if "edge" in self.kinds:
            choices += ["edge"]
        if "same" in self.kinds and self.groups and not in_look:
            choices += ["same"]
        if depth > 1:
            choices += ["seq", "seq", "alt", "repeat"] + ([] if in_look else ["group"])
            if "look" in self.kinds and not in_look:
                choices += ["look"]
        return getattr(self, "grow_" + self.chance.choice(choices))(depth - 1, in_look)

    def grow_set(self, depth, in_look):
        members = [s for s in self.signs if self.chance.random() < 0.45]
        return ("set", "".join(sorted(members)))

    def grow_empty(self, depth, in_look):
        return EMPTY

    def grow_edge(self, depth, in_look):
        return edge(self.chance.choice(EDGE_KINDS))

    def grow_same(self, depth, in_look):
        return same(self.chance.choice(self.groups))

    def grow_seq(self, depth, in_look):
        return ("seq", tuple(self.grow(depth, in_look) for _ in range(self.chance.choice([2, 2, 3]))))

    def grow_alt(self, depth, in_look):
        return ("alt", tuple(self.grow(depth, in_look) for _ in range(self.chance.choice([2, 2, 3]))))

    def grow_repeat(self, depth, in_look):
        least, most = self.chance.choice([(0, None), (1, None), (0, 1), (0, 0), (1, 1), (1, 2), (2, 2), (2, None)])
        return repeat(self.grow(depth, in_look), least, most, self.chance.random() < 0.3)

    def grow_group(self, depth, in_look):
        name = self.chance.choice(["x", "y", "a_1", "abcdefghijkl"])
        self.groups.append(name)
        return group(name, self.grow(depth, in_look))

    def grow_look(self, depth, in_look):
        side = self.chance.choice(["ahead", "behind"])
        return look(self.grow(depth, True), side, self.chance.random() < 0.5)


class Dense(Growing):
    """Makes trees with few names and signs and with many repeats, lazy ones and ones that can read nothing too."""

    def grow(self, depth, in_look):
        leaves = ["set"] * 7 + ["empty"] + (["edge"] if "edge" in self.kinds else [])
        if "same" in self.kinds and self.groups and not in_look:
            leaves += ["same"] * 4
        choices = ["seq", "seq", "alt", "repeat", "repeat", "repeat"] + ([] if in_look else ["group"])
        if "look" in self.kinds and not in_look:
            choices += ["look"]
        if depth <= 1 or self.chance.random() < 0.1:
            choices = leaves
        return getattr(self, "grow_" + self.chance.choice(choices))(depth - 1, in_look)

    def grow_set(self, depth, in_look):
        return ("set", self.chance.choice(["a"] * 5 + ["ab"] * 5 + ["b", "b", "", "\na"]))

    def grow_repeat(self, depth, in_look):
        numbers = [(0, None)] * 6 + [(0, 1)] * 3 + [
            (1, None), (2, None), (0, 0), (1, 1), (1, 2), (1, 3), (2, 2), (0, 2), (0, 3), (2, 3),
        ]
        least, most = self.chance.choice(numbers)
        return repeat(self.grow(depth, in_look), least, most, self.chance.random() < 0.4)

    def grow_group(self, depth, in_look):
        name = self.chance.choice(["x", "y"])
        self.groups.append(name)
        return group(name, self.grow(depth, in_look))


def dense_cases(seed, count, kinds=("look", "edge", "same"), depths=(4, 5, 5, 6)):
    """Yield triples of a tree, a short text and an index of the text, always the same ones for one seed."""
    growing = Dense(seed, kinds=kinds)
    for _ in range(count):
        tree = growing.tree(growing.chance.choice(depths))
        chance = growing.chance
        signs = chance.choice(["a", "a", "aaab", "aab\n b"])
        text = "".join(chance.choice(signs) for _ in range(chance.randrange(7)))
        yield tree, text, min(chance.randrange(len(text) + 1), chance.randrange(len(text) + 1))


def trees_of_each_form():
    """Return well-formed trees that show each form and each of its fields."""
    return [
        EMPTY, NOTHING, A, ("set", "ab"), ("set", SIGNS), seq(A, B), seq(EMPTY, A, B), alt(A, B), alt(EMPTY, EMPTY, C),
        repeat(A, 0, None), repeat(A, 1, None, True), repeat(A, 0, 0), repeat(A, 9, 9), repeat(A, 0, 9, True),
        repeat(seq(A, EMPTY), 2, 5), group("x", A), group("a_9", EMPTY), group("abcdefghijkl", seq(A, B)),
        look(A), look(A, "ahead", False), look(seq(A, B), "behind"), look(EMPTY, "behind", False),
        seq(group("x", A), same("x")), group("x", seq(A, same("x"))), group("x", group("x", B)),
        alt(group("x", A), group("y", B), group("x", C)),
    ] + [edge(kind) for kind in EDGE_KINDS]


def changed_tree(growing, tree):
    """Return a well-formed tree that differs from the given one in one node, most often only a little."""
    chance = growing.chance
    while True:
        path = chance.choice(paths(tree))
        node = node_at(tree, path)
        kind = chance.randrange(6)
        if kind == 0:
            node = growing.grow(2, True)
        elif kind == 1 and node[0] == "repeat":
            node = node[:4] + (not node[4],)
        elif kind == 2 and node[0] in ("seq", "alt"):
            node = (node[0], tuple(chance.sample(node[1], len(node[1]))))
        elif kind == 3:
            node = group(chance.choice("xy"), node)
        elif kind == 4:
            node = alt(node, growing.grow(2, True))
        elif kind == 5 and node[0] == "group":
            node = node[2]
        result = with_node(tree, path, node)
        try:
            check_tree(result)
        except BadTree:
            continue
        return result


def pairs_of_trees(seed, count, kinds=("look", "edge"), depths=(3, 4, 4, 5)):
    """Yield pairs of regular trees that are more or less alike, always the same ones for one seed."""
    growing = Dense(seed, kinds=kinds)
    while count:
        tree = growing.tree(growing.chance.choice(depths))
        other = changed_tree(growing, tree)
        if growing.chance.random() < 0.3:
            other = changed_tree(growing, other)
        if growing.chance.random() < 0.1:
            other = growing.tree(growing.chance.choice(depths))
        if weight(tree) <= 24 and weight(other) <= 24:
            count -= 1
            yield tree, other


def telling_signs(*trees):
    """Return a text with the least sign of each kind of signs that these trees can tell apart."""
    sets = ["\n", WORD_SIGNS]
    for tree in trees:
        sets += [node[1] for node in (node_at(tree, path) for path in paths(tree)) if node[0] == "set"]
    found = {}
    for sign in SIGNS:
        found.setdefault(tuple(sign in members for members in sets), sign)
    return "".join(sorted(found.values()))


def random_machine(chance, states, most_cells=4):
    """Return a machine with this number of states, made at random."""
    sets = ["".join(sorted(chance.sample("\n ab", chance.randrange(4)))) for _ in range(chance.randrange(3))]
    division = tuple(cells(sets)) if len(cells(sets)) <= most_cells else tuple(cells([]))
    rows = tuple(tuple(chance.randrange(states) for _ in division) for _ in range(states))
    return Machine(division, rows, tuple(chance.random() < 0.4 for _ in range(states)))
