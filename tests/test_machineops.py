"""Machines for other texts, least texts of machines, and trees of machines: points [5], [53] and [54]."""

import random
import unittest

from surespan.alphabet import SIGNS, texts_up_to
from surespan.cells import cells
from surespan.leastmachine import least_machine, minimized
from surespan.machineops import both, either, opposite, part_text, reach_text, without
from surespan.machines import Machine
from surespan.machinetree import tree_of
from surespan.meaning import accepts
from surespan.measures import size, weight
from surespan.reading import read_pattern
from surespan.trees import check_tree, group_names, is_plain
from tests.samples import pairs_of_trees, random_machine
from tests.test_machines import LeastFormCase

NOTHING = Machine((SIGNS,), ((0,),), (False,))
EVERYTHING = Machine((SIGNS,), ((0,),), (True,))


def machine_of(pattern):
    return least_machine(read_pattern(pattern))


class SetTest(LeastFormCase):
    def check(self, machine, other):
        """Check the four functions on two machines with the texts over some signs."""
        results = [opposite(machine), both(machine, other), either(machine, other), without(machine, other)]
        for result in results:
            self.check_form(result)
        for text in list(texts_up_to("\nab", 3)) + ["~", "c ", "abab", "aaaaa"]:
            one, two = machine.accepts(text), other.accepts(text)
            expected = [not one, one and two, one or two, one and not two]
            self.assertEqual([result.accepts(text) for result in results], expected, text)

    def check_laws(self, machine, other):
        least, other_least = minimized(machine), minimized(other)
        self.assertEqual(opposite(opposite(machine)), least)
        self.assertEqual(both(machine, other), both(other, machine))
        self.assertEqual(either(machine, other), either(other, machine))
        self.assertEqual(both(machine, machine), least)
        self.assertEqual(either(other, other), other_least)
        self.assertEqual(without(machine, machine), NOTHING)
        self.assertEqual(without(machine, other), both(machine, opposite(other)))
        self.assertEqual(opposite(either(machine, other)), both(opposite(machine), opposite(other)))
        self.assertEqual(either(without(machine, other), both(machine, other)), least)
        self.assertEqual([either(machine, opposite(machine)), both(machine, opposite(machine))], [EVERYTHING, NOTHING])
        self.assertEqual([both(machine, EVERYTHING), either(machine, NOTHING)], [least, least])
        self.assertEqual([both(machine, NOTHING), either(EVERYTHING, machine)], [NOTHING, EVERYTHING])

    def test_machines_of_trees(self):
        self.assertEqual(opposite(machine_of("a*")), machine_of("[^]*[^a][^]*"))
        self.assertEqual(both(machine_of("a*b"), machine_of("ab*")), machine_of("ab"))
        self.assertEqual(either(machine_of("a*b"), machine_of("ab*")), machine_of("a*b|ab*"))
        self.assertEqual(without(machine_of("a*b?"), machine_of("a*")), machine_of("a*b"))
        self.assertEqual(without(machine_of("a*"), machine_of("a*b?")), NOTHING)
        self.assertEqual(opposite(NOTHING), EVERYTHING)
        self.assertEqual(opposite(EVERYTHING), NOTHING)

    def test_different_divisions(self):
        first, second = machine_of("[a-m]*"), machine_of("[h-z]+|[a-c]")
        self.check(first, second)
        self.assertEqual(both(first, second), machine_of("[h-m]+|[a-c]"))
        self.assertEqual(either(machine_of("a"), machine_of("b")), machine_of("[ab]"))
        self.assertEqual(either(machine_of("[a-m]"), machine_of("[^a-m]")), machine_of("[^]"))

    def test_many_machines(self):
        chance = random.Random(530)
        for _ in range(120):
            machine, other = [random_machine(chance, chance.choice((1, 2, 3, 4, 6))) for _ in range(2)]
            self.check(machine, other)
            self.check_laws(machine, other)

    def test_machines_of_many_trees(self):
        for tree, other in pairs_of_trees(531, 60):
            machine, second = least_machine(tree), least_machine(other)
            self.check(machine, second)
            self.check_laws(machine, second)
            self.assertEqual(either(machine, second), least_machine(("alt", (tree, other))))


class TextTest(unittest.TestCase):
    def test_examples(self):
        self.assertEqual(part_text(machine_of("ab"), 0, 2), "b")

    def test_reach_text(self):
        machine = machine_of("ab")
        texts = [reach_text(machine, state) for state in range(len(machine))]
        self.assertEqual(texts[0], "")
        self.assertEqual(sorted(texts), ["", "\t", "a", "ab"])
        for state, text in enumerate(texts):
            self.assertEqual(machine.state_after(text), state)

    def test_states_that_no_text_reaches(self):
        machine = Machine(tuple(cells(["a"])), ((0, 0), (2, 0), (1, 1)), (True, False, True))
        self.assertEqual([reach_text(machine, state) for state in range(3)], ["", None, None])

    def test_the_least_text_among_several(self):
        division = tuple(cells(["\n", "a"]))
        self.assertEqual([cell[0] for cell in division], ["\t", "\n", "a"])
        machine = Machine(division, ((0, 1, 2), (3, 3, 2), (3, 0, 3), (3, 3, 3)), (False, True, False, True))
        self.assertEqual([reach_text(machine, state) for state in range(4)], ["", "\n", "a", "\n\t"])
        self.assertEqual(part_text(machine, 0, 2), "\t")
        self.assertEqual(part_text(machine, 1, 3), "a")
        # `a` leads there by a text that is longer, though its signs come first.
        machine = Machine(division, ((1, 1, 3), (2, 1, 1), (3, 0, 0), (3, 3, 3)), (False,) * 3 + (True,))
        self.assertEqual(reach_text(machine, 3), "a")

    def test_part_text(self):
        machine = machine_of("a*b|c")
        for state in range(len(machine)):
            self.assertIsNone(part_text(machine, state, state))
            for other in range(len(machine)):
                self.assertEqual(part_text(machine, state, other), part_text(machine, other, state))
        twice = Machine((SIGNS,), ((1,), (0,), (3,), (2,)), (True, False, True, False))
        self.assertEqual([part_text(twice, 0, state) for state in range(4)], [None, "", None, ""])
        self.assertEqual([part_text(NOTHING, 0, 0), part_text(EVERYTHING, 0, 0)], [None, None])

    def test_many_machines(self):
        chance = random.Random(54)
        for _ in range(60):
            machine = random_machine(chance, chance.choice((2, 3, 4, 5)), 3)
            signs = "".join(cell[0] for cell in machine.cells)
            count = len(machine)
            reached, parted = {}, {}
            for text in texts_up_to(signs, 6):
                states = list(range(count))
                for sign in text:
                    states = [machine.rows[state][signs.index(sign)] for state in states]
                reached.setdefault(states[0], text)
                for one in range(count):
                    for two in range(count):
                        if machine.accepting[states[one]] != machine.accepting[states[two]]:
                            parted.setdefault((one, two), text)
            for one in range(count):
                self.assertEqual(reach_text(machine, one), reached.get(one))
                for two in range(count):
                    self.assertEqual(part_text(machine, one, two), parted.get((one, two)))


class TreeTest(unittest.TestCase):
    def check(self, machine):
        tree = tree_of(machine)
        check_tree(tree)
        self.assertTrue(is_plain(tree))
        self.assertEqual(group_names(tree), [])
        self.assertEqual(least_machine(tree), minimized(machine))
        return tree

    def test_nothing_and_everything(self):
        for machine in (NOTHING, EVERYTHING, Machine(tuple(cells(["a"])), ((1, 2), (1, 0), (2, 2)), (False,) * 3)):
            self.check(machine)
        self.assertFalse(accepts(tree_of(NOTHING), ""))
        self.assertTrue(accepts(tree_of(EVERYTHING), "\t~"))

    def test_only_the_empty_text(self):
        tree = self.check(Machine((SIGNS,), ((1,), (1,)), (True, False)))
        self.assertEqual([accepts(tree, text) for text in ("", "a", "\t")], [True, False, False])

    def test_machines_of_trees(self):
        for pattern in (
            "a", "a*", "ab|ac", "(a|b)*abb", "a<3>", "[a-c]+|x", "(ab)*", "(a*b)*", "({digit}+,)*", "a?b?c?", "(a<2>)*|(a<3>)*",
            "[^a]*a[^]*", "(.*\n)*", "{not ahead:[^]*ab}[ab]*", "{word}+( {word}+)*", "\\~|\t",
        ):
            tree = self.check(machine_of(pattern))
            self.assertLessEqual(weight(tree), 40, pattern)

    def test_small_trees_for_simple_machines(self):
        self.assertLessEqual(size(tree_of(machine_of("a"))), 1)
        self.assertLessEqual(size(tree_of(machine_of("a*"))), 2)
        self.assertLessEqual(size(tree_of(EVERYTHING)), 2)
        self.assertLessEqual(size(tree_of(machine_of("[ab]*c"))), 4)

    def test_states_that_are_not_reached(self):
        self.check(Machine((SIGNS,), ((0,), (0,), (1,)), (False, True, True)))
        self.check(Machine(tuple(cells(["a"])), ((0, 1), (0, 1), (1, 2)), (False, True, True)))

    def test_many_machines(self):
        chance = random.Random(540)
        for _ in range(250):
            self.check(random_machine(chance, chance.choice((1, 2, 3, 4, 5, 6)), 3))

    def test_machines_with_8_states(self):
        chance = random.Random(541)
        for _ in range(30):
            self.check(random_machine(chance, 8, 2))


if __name__ == "__main__":
    unittest.main()
