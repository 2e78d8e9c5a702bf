"""Joined machines: points [52] and [79] (surespan.machinejoins)."""

import random
import unittest

from surespan.alphabet import SIGNS, texts_up_to
from surespan.cells import cells
from surespan.leastmachine import least_machine, minimized
from surespan.machinejoins import beginnings, joined, mirrored, quotient, starred
from surespan.machines import Machine
from surespan.mirroring import mirror
from surespan.reading import read_pattern
from tests.samples import Dense, random_machine, repeat, seq
from tests.test_machines import LeastFormCase

NOTHING = Machine((SIGNS,), ((0,),), (False,))
ONLY_EMPTY = Machine((SIGNS,), ((1,), (1,)), (True, False))
EVERYTHING = Machine((SIGNS,), ((0,),), (True,))


def machine_of(pattern):
    return least_machine(read_pattern(pattern))


def common_signs(*machines):
    """Return a text with the least sign of each cell that the divisions of some machines make together."""
    return "".join(cell[0] for cell in cells([cell for machine in machines for cell in machine.cells]))


class JoinCase(LeastFormCase):
    def check(self, result, texts, is_accepted):
        """Check that a result is in least form and accepts the right ones of some texts."""
        self.check_form(result)
        for text in texts:
            self.assertEqual(result.accepts(text), is_accepted(text), text)


class JoinedTest(JoinCase):
    def check_joined(self, machine, other, size=4):
        self.check(
            joined(machine, other), texts_up_to(common_signs(machine, other), size),
            lambda text: any(machine.accepts(text[:at]) and other.accepts(text[at:]) for at in range(len(text) + 1)),
        )

    def test_machines_of_trees(self):
        for first, second in (
            ("a", "b"), ("a*", "b*"), ("a*", "a*"), ("", "ab"), ("a?", "a?"), ("a*b", "b*a"), ("(ab)*", "(ba)*"),
            ("[a-m]*", "[h-z]"), ("[^a]*", "a"), ("\n", "[^\n]+"),
        ):
            result = joined(machine_of(first), machine_of(second))
            self.check_form(result)
            self.assertEqual(result, machine_of("({})({})".format(first, second)), (first, second))

    def test_nothing_only_the_empty_text_and_everything(self):
        least = machine_of("a*b")
        for machine in (NOTHING, ONLY_EMPTY, EVERYTHING, least):
            self.assertEqual(joined(NOTHING, machine), NOTHING)
            self.assertEqual(joined(machine, NOTHING), NOTHING)
            self.assertEqual(joined(ONLY_EMPTY, machine), machine)
            self.assertEqual(joined(machine, ONLY_EMPTY), machine)
        self.assertEqual(joined(EVERYTHING, EVERYTHING), EVERYTHING)
        self.assertEqual(joined(EVERYTHING, least), machine_of("[^]*b"))
        self.assertEqual(joined(least, EVERYTHING), machine_of("a*b[^]*"))

    def test_the_order_of_the_two(self):
        self.assertNotEqual(joined(machine_of("a"), machine_of("b")), joined(machine_of("b"), machine_of("a")))

    def test_machines_that_are_not_in_least_form(self):
        # State 2 is not reached, and no text parts the states 1 and 3.
        machine = Machine(tuple(cells(["a", "b"])), ((3, 1, 3), (1, 1, 1), (0, 0, 0), (3, 3, 3)), (True, False, True, False))
        self.assertEqual(joined(machine, machine), ONLY_EMPTY)
        self.assertEqual(joined(machine, machine_of("ab")), machine_of("ab"))

    def test_many_machines(self):
        chance = random.Random(790)
        for _ in range(150):
            one, two = [random_machine(chance, chance.choice((1, 2, 3, 4, 6, 8)), 3) for _ in range(2)]
            self.check_joined(one, two)

    def test_many_trees(self):
        growing = Dense(791, kinds=())
        for _ in range(60):
            tree, other = growing.tree(3), growing.tree(3)
            result = joined(least_machine(tree), least_machine(other))
            self.assertEqual(result, least_machine(seq(tree, other)))


class StarredTest(JoinCase):
    def check_starred(self, machine, size=5):
        signs = common_signs(machine)
        texts = list(texts_up_to(signs, size))
        accepted = {""}
        # In text order, the beginnings of a text come before it.
        for text in texts:
            if any(text[:at] in accepted and machine.accepts(text[at:]) for at in range(len(text))):
                accepted.add(text)
        self.check(starred(machine), texts, lambda text: text in accepted)

    def test_machines_of_trees(self):
        for pattern in ("a", "ab", "a*", "", "a*b", "(ab)*", "a|bb", "[a-c]d?", "aa|aaa", "[^a]", "a+b+"):
            result = starred(machine_of(pattern))
            self.check_form(result)
            self.assertEqual(result, machine_of("({})*".format(pattern)), pattern)

    def test_nothing_only_the_empty_text_and_everything(self):
        self.assertEqual(starred(NOTHING), ONLY_EMPTY)
        self.assertEqual(starred(ONLY_EMPTY), ONLY_EMPTY)
        self.assertEqual(starred(EVERYTHING), EVERYTHING)
        self.assertEqual(starred(machine_of("[^]")), EVERYTHING)

    def test_the_empty_text_is_accepted_and_no_other_one_with_it(self):
        # State 0 is entered again by texts that are not accepted.
        machine = Machine(tuple(cells(["a"])), ((0, 1), (1, 0)), (False, True))
        self.check_starred(machine)
        self.assertEqual([starred(machine).accepts(text) for text in ("", "b", "a", "aa", "ba", "aab")], [
            True, False, True, True, True, True,
        ])
        self.assertFalse(starred(machine_of("b*a")).accepts("ab"))

    def test_many_machines(self):
        chance = random.Random(792)
        for _ in range(150):
            machine = random_machine(chance, chance.choice((1, 2, 3, 4, 6, 8)), 3)
            self.check_starred(machine)
            self.assertEqual(starred(starred(machine)), starred(machine))

    def test_many_trees(self):
        growing = Dense(793, kinds=())
        for _ in range(60):
            tree = growing.tree(4)
            self.assertEqual(starred(least_machine(tree)), least_machine(repeat(tree, 0, None)))


class MirroredTest(JoinCase):
    def test_machines_of_trees(self):
        for pattern, reverse in (("abc", "cba"), ("a*b", "ba*"), ("(ab)*", "(ba)*"), ("a|bc", "cb|a"), ("[ab]*a.", ".a[ab]*")):
            self.assertEqual(mirrored(machine_of(pattern)), machine_of(reverse), pattern)
            self.check_form(mirrored(machine_of(pattern)))

    def test_nothing_only_the_empty_text_and_everything(self):
        for machine in (NOTHING, ONLY_EMPTY, EVERYTHING):
            self.assertEqual(mirrored(machine), machine)

    def test_many_machines(self):
        chance = random.Random(794)
        for _ in range(150):
            machine = random_machine(chance, chance.choice((1, 2, 3, 4, 6, 8)), 3)
            result = mirrored(machine)
            self.check(result, texts_up_to(common_signs(machine), 5), lambda text: machine.accepts(text[::-1]))
            self.assertEqual(mirrored(result), minimized(machine))

    def test_many_trees(self):
        growing = Dense(795, kinds=("edge", "look"))
        for _ in range(60):
            tree = growing.tree(4)
            self.assertEqual(mirrored(least_machine(tree)), least_machine(mirror(tree)))


class BeginningsTest(JoinCase):
    def test_example(self):
        self.assertEqual(beginnings(machine_of("ab")), machine_of("(ab?)?"))

    def test_machines_of_trees(self):
        for pattern, expected in (
            ("a", "a?"), ("a*b", "a*b?"), ("abc|b", "(a(bc?)?|b)?"), ("a[]", "[]"), ("a[]|b", "b?"), ("(ab)*", "(ab)*a?"),
        ):
            self.assertEqual(beginnings(machine_of(pattern)), machine_of(expected), pattern)

    def test_nothing_only_the_empty_text_and_everything(self):
        for machine in (NOTHING, ONLY_EMPTY, EVERYTHING):
            self.assertEqual(beginnings(machine), machine)
        self.assertEqual(beginnings(machine_of("[^]*a")), EVERYTHING)

    def test_many_machines(self):
        chance = random.Random(796)
        for _ in range(150):
            machine = random_machine(chance, chance.choice((1, 2, 3, 4, 6)), 3)
            signs = common_signs(machine)
            # What is accepted behind a state is so behind a text with fewer signs than there are states.
            rests = list(texts_up_to(signs, len(machine) - 1)) if len(machine) < 5 else list(texts_up_to(signs, 5))
            result = beginnings(machine)
            self.check(result, texts_up_to(signs, 3), lambda text: any(machine.accepts(text + rest) for rest in rests))
            self.assertEqual(beginnings(result), result)


class QuotientTest(JoinCase):
    def test_machines_of_trees(self):
        for pattern, text, expected in (
            ("ab", "a", "b"), ("ab", "", "ab"), ("ab", "ab", ""), ("ab", "b", "[]"), ("a*b", "aaa", "a*b"), ("a*b|c", "c", ""),
            ("(ab)*", "aba", "b(ab)*"), ("[^a]*a", "xyz\n", "[^a]*a"),
        ):
            result = quotient(machine_of(pattern), text)
            self.check_form(result)
            self.assertEqual(result, machine_of(expected), (pattern, text))

    def test_nothing_only_the_empty_text_and_everything(self):
        for text in ("", "a", "ab\n"):
            self.assertEqual(quotient(NOTHING, text), NOTHING)
            self.assertEqual(quotient(EVERYTHING, text), EVERYTHING)
            self.assertEqual(quotient(ONLY_EMPTY, text), NOTHING if text else ONLY_EMPTY)

    def test_long_texts(self):
        machine = machine_of("((a<7>)*b)*")
        self.assertEqual(quotient(machine, "a" * 300), machine_of("a<1>(a<7>)*b((a<7>)*b)*"))
        self.assertEqual(quotient(machine, "aaaaaaab" * 37), machine)
        chance = random.Random(797)
        for _ in range(40):
            machine = random_machine(chance, chance.choice((8, 20, 40)), 3)
            text = "".join(chance.choice("\nabc~") for _ in range(300))
            result = quotient(machine, text)
            self.check(result, texts_up_to(common_signs(machine), 3), lambda rest: machine.accepts(text + rest))

    def test_many_machines(self):
        chance = random.Random(798)
        for _ in range(100):
            machine = random_machine(chance, chance.choice((1, 2, 3, 4, 6)), 3)
            signs = common_signs(machine)
            for text in texts_up_to(signs, 2):
                result = quotient(machine, text)
                self.check(result, texts_up_to(signs, 3), lambda rest: machine.accepts(text + rest))
                self.assertEqual(quotient(quotient(machine, text), "a"), quotient(machine, text + "a"))


if __name__ == "__main__":
    unittest.main()
