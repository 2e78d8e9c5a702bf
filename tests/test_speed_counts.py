"""Joined machines, nearest texts, numbers of ways and texts, and simplified trees at the bounds: point [98]."""

import random
import time
import unittest

from surespan.alphabet import SIGNS
from surespan.cells import cells
from surespan.growth import growth, pump
from surespan.machinejoins import beginnings, joined, mirrored, quotient, starred
from surespan.machines import Machine
from surespan.measures import size, weight
from surespan.nearest import machine_within, nearest
from surespan.reading import read_pattern
from surespan.rewriting import simplify, simplify_steps
from surespan.textcounts import accepted_texts, count_texts, length_cycle, number_of, text_at
from surespan.trees import is_plain
from surespan.twofold import twofold
from surespan.waycounts import ways_row, whole_ways
from tests.samples import Growing
from tests.test_speed import BOUNDS, CAPTURING, LONG, LOOKING, PATTERNS, SECONDS
from tests.test_speed_machines import circle, random_rows
from tests.test_speed_tables import FOUR_LOOKS, HEAVY

MORE = [
    "a*" * 24, ".*" * 24, "(a<8>)*(a<8>)*(a<8>)*", "(a<2>)*(a<3>)*(a<4>)*(a<5>)*(a<6>)*", "([ab]c|d)*" * 8, "(a*b)*" * 12,
    "(a*(b|c*d))*" * 6, "(.?)<9>(.?)<9>", "((.*a)<3>|(.*b)<3>)<2>", "(|a)<9>(|b)<9>", "(|)<9>(|)<9>a", "((|)(|)(|)(|)(|)(|)a)*b",
]


def random_machine(chance, states, count):
    division = tuple(cells(list(SIGNS[:count - 1])))
    return Machine(division, random_rows(chance, states, count), tuple(chance.random() < 0.2 for _ in range(states)))


class SpeedTest(unittest.TestCase):
    def setUp(self):
        begun = time.monotonic()
        self.addCleanup(lambda: self.assertLess(time.monotonic() - begun, SECONDS))

    def test_joined_machines_with_8_states(self):
        chance = random.Random(79)
        for count in (2, 3, 6, 20, 96):
            for _ in range(3):
                machine, other = random_machine(chance, 8, count), random_machine(chance, 8, count)
                for result in (joined(machine, other), starred(machine), mirrored(machine)):
                    self.assertGreaterEqual(len(result), 1)
        self.assertGreater(len(joined(circle(8, 7), circle(7, 6))), 10)
        tail = Machine(tuple(cells(["a"])), tuple((min(s + 1, 7) if s else 0, min(s + 1, 7)) for s in range(8)), (False,) * 7 + (True,))
        self.assertGreater(len(joined(tail, tail)), 10)

    def test_machines_with_40_states(self):
        chance = random.Random(80)
        text = "".join(chance.choice(SIGNS) for _ in range(300))
        for count in (2, 3, 20, 96):
            machine = random_machine(chance, 40, count)
            self.assertGreater(len(beginnings(machine)), 0)
            self.assertGreater(len(quotient(machine, text)), 0)
            found = nearest(machine, text)
            self.assertTrue(machine.accepts(found[1]))
            self.assertLess(found[0], 41)
        self.assertEqual(nearest(circle(40, 39), "a" * 300), (19, "a" * 319))
        self.assertEqual(nearest(circle(40, 39), "b" * 300)[0], 39)

    def test_texts_within_a_distance(self):
        chance = random.Random(81)
        for count in (2, 3, 6, 20, 96):
            for _ in range(3):
                machine = random_machine(chance, 8, count)
                for most in range(3):
                    self.assertGreaterEqual(len(machine_within(machine, most)), 1)
        chain = Machine((*cells(list("abcdefg")),), tuple(
            tuple(state + 1 if cell == state + 1 else 0 for cell in range(8)) if state < 7 else (0,) * 8 for state in range(8)
        ), (False,) * 7 + (True,))
        self.assertGreater(len(machine_within(chain, 2)), 20)

    def test_numbers_of_ways(self):
        chance = random.Random(56)
        text = "".join(chance.choice("aabc\n ") for _ in range(300))
        for pattern in PATTERNS + LOOKING + CAPTURING + BOUNDS + HEAVY + FOUR_LOOKS + MORE:
            tree = read_pattern(pattern)
            for told in (text, LONG):
                self.assertEqual(len(ways_row(tree, told)), 301, pattern)
                self.assertEqual(sum(ways_row(tree, told, 300)[:300]), 0)
                self.assertGreaterEqual(whole_ways(tree, told), 0)

    def test_texts_with_two_ways(self):
        for pattern in LOOKING + CAPTURING + HEAVY + FOUR_LOOKS + MORE:
            tree = read_pattern(pattern)
            self.assertLessEqual(weight(tree), 24)
            found = twofold(tree)
            self.assertTrue(found is None or whole_ways(tree, found) > 1, pattern)
        self.assertEqual(twofold(read_pattern("({ahead:.<9>.<9>b}a|[ab])*")), "a" * 18 + "b")
        self.assertEqual(twofold(read_pattern("({not ahead:.<9>.<9>b}a|[ab])*")), "a")
        found = twofold(read_pattern("({ahead:.<9>b}a{behind:b.<9>}|[ab])*"))
        self.assertEqual(found, "b" + "a" * 17 + "b")

    def test_growth(self):
        for pattern in CAPTURING + HEAVY + MORE:
            tree = read_pattern(pattern)
            if is_plain(tree):
                power, texts = growth(tree), pump(tree)
                if power != 0:
                    text = "".join(part * 2 if at % 2 else part for at, part in enumerate(texts))
                    self.assertGreaterEqual(whole_ways(tree, text), 4 if power is None else 2 ** power)

    def test_texts_of_machines_with_40_states(self):
        chance = random.Random(60)
        for count in (2, 3, 20, 96):
            machine = random_machine(chance, 40, count)
            self.assertGreater(count_texts(machine, 300), 10 ** 30)
            for number in (0, 999, 10 ** 30):
                self.assertEqual(number_of(machine, text_at(machine, number)), number)
            self.assertGreater(number_of(machine, "x" * 300), 10 ** 30)
            self.assertEqual(len(list(accepted_texts(machine, 1000))), 1000)
            self.assertGreater(len(length_cycle(machine)[1]), 0)
        self.assertEqual(list(accepted_texts(circle(1, 0), 1000))[-1], text_at(circle(1, 0), 999))
        # Only one text for each length.
        single = Machine(("".join(SIGNS[:-1]), "~"), ((1, 0), (1, 1)), (True, False))
        self.assertEqual(list(accepted_texts(single, 301))[-1], "~" * 300)
        self.assertEqual(text_at(single, 300), "~" * 300)

    def test_simplified_trees(self):
        growing = Growing(62, signs="abc", kinds=("look", "edge"))
        trees = [read_pattern(pattern) for pattern in PATTERNS + LOOKING + CAPTURING + BOUNDS + HEAVY + FOUR_LOOKS + MORE]
        trees += [growing.tree(8) for _ in range(200)]
        for tree in trees:
            self.assertEqual(simplify_steps(tree)[-1], simplify(tree))
            if size(tree) <= 60:
                self.assertLess(len(simplify_steps(tree)), 200)


if __name__ == "__main__":
    unittest.main()
