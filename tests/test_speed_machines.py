"""Least texts, end lists and machines at the bounds are answered in seconds: point [98]."""

import random
import time
import unittest

from surespan.acceptance import least_accepted, least_answered, least_refused, outside, shared
from surespan.alphabet import SIGNS
from surespan.cells import cells
from surespan.exchanges import end_list, list_parting
from surespan.leastmachine import least_machine, minimized
from surespan.machineops import both, either, opposite, part_text, reach_text, without
from surespan.machines import Machine
from surespan.machinetree import tree_of
from surespan.meaning import accepts
from surespan.measures import weight
from surespan.reading import read_pattern
from surespan.rules import winner, winning_text
from surespan.trees import is_plain
from tests.samples import alt
from tests.test_speed import BOUNDS, CAPTURING, LONG, LOOKING, PATTERNS, SECONDS
from tests.test_speed_tables import FOUR_LOOKS, HEAVY

TREES = [read_pattern(pattern) for pattern in HEAVY + FOUR_LOOKS + LOOKING + CAPTURING]
EVERY = tuple(SIGNS)


def random_rows(chance, states, count):
    return tuple(tuple(chance.randrange(states) for _ in range(count)) for _ in range(states))


def circle(states, goal):
    """Return a machine that counts the signs `a` up to a number of states and around again."""
    rows = tuple((state, (state + 1) % states) for state in range(states))
    return Machine(tuple(cells(["a"])), rows, tuple(state == goal for state in range(states)))


class SpeedTest(unittest.TestCase):
    def setUp(self):
        begun = time.monotonic()
        self.addCleanup(lambda: self.assertLess(time.monotonic() - begun, SECONDS))

    def test_least_texts(self):
        for tree, other in zip(TREES, TREES[3:] + TREES[:3]):
            found = least_accepted(tree)
            self.assertTrue(found is None or accepts(tree, found))
            found = least_refused(tree)
            self.assertTrue(found is None or not accepts(tree, found))
            self.assertIsNone(outside(tree, alt(tree, other)))
            self.assertEqual(shared(tree, alt(other, tree)), least_accepted(tree))
            for found in (outside(tree, other), shared(tree, other)):
                self.assertTrue(found is None or accepts(tree, found))
            least_answered(tree)

    def test_long_least_texts(self):
        tree = read_pattern("(a<2>)*|(a<3>)*|(a<5>)*|[^]<0,6>|[^a][^]*")
        self.assertEqual(least_refused(tree), "a" + "\t" * 6)
        self.assertEqual(shared(read_pattern("(a<9>)+"), read_pattern("(a<8>)+")), "a" * 72)
        self.assertEqual(len(shared(read_pattern("((a<3>)<3>)+b"), read_pattern("(a<8>)+(a<5>)+b"))) % 9, 1)
        self.assertEqual(least_accepted(read_pattern("{ahead:(a<5>)+b}{ahead:(a<7>)+b}(a<3>)+b")), "a" * 105 + "b")
        tree = read_pattern("{not ahead:(a<4>)*{end}}{not ahead:(a<5>)*{end}}{not ahead:(a<7>)*{end}}[^]*|[^]*[^a][^]*")
        self.assertEqual(least_refused(tree), "")
        self.assertEqual(outside(read_pattern("a+"), tree), "a" * 4)

    def test_lists_of_trees(self):
        for at in range(0, len(TREES), 3):
            trees = (TREES + TREES)[at:at + 6]
            for number in range(6):
                found = winning_text(trees, number)
                if found is not None:
                    self.assertEqual(winner(trees, found), number)
            winner(trees, LONG)

    def test_end_lists(self):
        for pattern in PATTERNS + BOUNDS + HEAVY:
            tree = read_pattern(pattern)
            if is_plain(tree):
                for text in (LONG, "ab" * 150):
                    self.assertEqual(len(dict(end_list(tree, text))), len(end_list(tree, text)))
        plain = [tree for tree in TREES if is_plain(tree)]
        self.assertGreater(len(plain), 8)
        for tree, other in zip(plain, plain[1:] + plain[:1]):
            self.assertIsNotNone(list_parting(tree, other))
            self.assertIsNone(list_parting(tree, ("seq", (("empty",), tree))))
            self.assertIsNone(list_parting(tree, alt(tree, tree)))

    def test_least_machines(self):
        for tree in TREES:
            self.assertLessEqual(weight(tree), 24)
            machine = least_machine(tree)
            self.assertEqual(minimized(machine), machine)
        self.assertEqual(len(least_machine(read_pattern("(a|b)*a(a|b)<9>"))), 1025)
        self.assertGreater(len(least_machine(read_pattern("{ahead:.*a.<5>b}{not ahead:.*b.<5>a}[ab]*"))), 129)

    def test_machines_with_40_states(self):
        chance = random.Random(40)
        machines = [
            Machine(EVERY, random_rows(chance, 40, 96), tuple(chance.random() < 0.5 for _ in range(40))) for _ in range(2)
        ]
        for machine, other in (machines, [circle(40, 39), circle(39, 38)], [circle(37, 0), machines[0]]):
            for call in (both, either, without):
                self.assertGreater(len(call(machine, other)), 1000)
            self.assertEqual(opposite(opposite(machine)), minimized(machine))
            for state in range(len(machine)):
                self.assertIsNotNone(reach_text(machine, state))
                for second in range(0, len(machine), 5):
                    self.assertIs(part_text(machine, state, second) is None, state == second)

    def test_trees_of_machines_with_8_states(self):
        chance = random.Random(8)
        for count in (1, 2, 3, 6, 20, 96):
            division = tuple(cells(list(SIGNS[:count - 1])))
            for _ in range(3):
                accepting = tuple(chance.random() < 0.5 for _ in range(8))
                machine = Machine(division, random_rows(chance, 8, count), accepting)
                tree = tree_of(machine)
                self.assertEqual(accepts(tree, ""), machine.accepts(""))
                if weight(tree) <= 300:
                    self.assertEqual(least_machine(tree), minimized(machine))


if __name__ == "__main__":
    unittest.main()
