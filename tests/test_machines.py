"""Machines: points [8], [51] and [52] (surespan.machines, surespan.leastmachine)."""

import random
import unittest

from surespan.alphabet import SIGNS, texts_up_to
from surespan.cells import cells
from surespan.errors import NotRegular
from surespan.leastmachine import least_machine, minimized
from surespan.machines import Machine
from surespan.meaning import accepts
from surespan.reading import read_pattern
from tests.samples import (
    A, B, Dense, dense_cases, group, look, random_machine, repeat, same, seq, telling_signs, trees_of_each_form,
)

# It accepts the texts with an odd number of signs `a`; state 2 is never reached.
CELLS = tuple(cells(["a"]))
ODD = Machine(CELLS, ((0, 1), (1, 0), (0, 2)), (False, True, True))


def text_reaching(machine):
    """Return a dict from the states to texts that lead there."""
    texts = {0: ""}
    waiting = [0]
    for state in waiting:
        for cell, target in zip(machine.cells, machine.rows[state]):
            if target not in texts:
                texts[target] = texts[state] + cell[0]
                waiting.append(target)
    return texts


def parted_pairs(machine):
    """Return the set of the pairs of states that some text parts."""
    count = len(machine.rows)
    parted = {(s, t) for s in range(count) for t in range(count) if machine.accepting[s] != machine.accepting[t]}
    while True:
        more = {
            (s, t) for s in range(count) for t in range(count)
            if any((a, b) in parted for a, b in zip(machine.rows[s], machine.rows[t]))
        }
        if more <= parted:
            return parted
        parted |= more


class LeastFormCase(unittest.TestCase):
    def check_form(self, machine):
        """Check the kinds of the fields, and the properties of point [52]."""
        self.assertIsInstance(machine, Machine)
        count = len(machine)
        self.assertTrue(type(machine.cells) is type(machine.rows) is type(machine.accepting) is tuple)
        self.assertEqual(list(machine.cells), cells(list(machine.cells)))
        self.assertTrue(all(type(row) is tuple and len(row) == len(machine.cells) for row in machine.rows))
        self.assertTrue(all(type(state) is int and 0 <= state < count for row in machine.rows for state in row))
        self.assertTrue(all(value is True or value is False for value in machine.accepting))
        self.assertEqual(len(machine.accepting), count)
        # Every state is reached, and the states are numbered as a breadth-first walk meets them.
        self.assertEqual(list(text_reaching(machine)), list(range(count)))
        # Every two states are parted by a text, and every two cells by a state.
        self.assertEqual(len(parted_pairs(machine)), count * (count - 1))
        columns = [tuple(row[cell] for row in machine.rows) for cell in range(len(machine.cells))]
        self.assertEqual(len(set(columns)), len(columns))

    def check_alike(self, machine, other):
        """Check that two machines accept the same texts."""
        division = cells(list(machine.cells) + list(other.cells))
        met, waiting = {(0, 0)}, [("", 0, 0)]
        for text, state, other_state in waiting:
            self.assertEqual(machine.accepting[state], other.accepting[other_state], text)
            for cell in division:
                pair = (step(machine, state, cell[0]), step(other, other_state, cell[0]))
                if pair not in met:
                    met.add(pair)
                    waiting.append((text + cell[0],) + pair)


def step(machine, state, sign):
    return machine.rows[state][[sign in cell for cell in machine.cells].index(True)]


class MachineTest(unittest.TestCase):
    def test_fields(self):
        rows, accepting = ((0, 1), (1, 1)), (True, False)
        machine = Machine(CELLS, rows, accepting)
        self.assertIs(machine.cells, CELLS)
        self.assertIs(machine.rows, rows)
        self.assertIs(machine.accepting, accepting)
        machine = Machine(cells=CELLS, rows=rows, accepting=accepting)
        self.assertEqual((machine.cells, machine.rows, machine.accepting), (CELLS, rows, accepting))

    def test_accepts(self):
        found = [ODD.accepts(text) for text in ("", "a", "aa", "ba", "\tab~", "aba", "\n" * 300)]
        self.assertEqual(found, [False, True, False, True, True, False, False])

    def test_state_after(self):
        found = [ODD.state_after(text) for text in ("", "a", "aa", "bab", "aaa")]
        self.assertEqual(found, [0, 1, 0, 1, 1])
        machine = Machine((SIGNS,), ((1,), (2,), (0,)), (False, False, True))
        self.assertEqual([machine.state_after("x" * size) for size in range(5)], [0, 1, 2, 0, 1])

    def test_length(self):
        self.assertEqual(len(ODD), 3)
        self.assertEqual(len(Machine((SIGNS,), ((0,),), (True,))), 1)

    def test_equality(self):
        self.assertEqual(ODD, Machine(tuple(cells(["a"])), ((0, 1), (1, 0), (0, 2)), (False, True, True)))
        self.assertNotEqual(ODD, Machine(tuple(cells(["b"])), ODD.rows, ODD.accepting))
        self.assertNotEqual(ODD, Machine(CELLS, ((0, 1), (1, 0), (0, 0)), ODD.accepting))
        self.assertNotEqual(ODD, Machine(CELLS, ODD.rows, (False, True, False)))
        # The same texts, but in another division.
        finer = Machine(tuple(cells(["a", "b"])), tuple((row[0], row[1], row[0]) for row in ODD.rows), ODD.accepting)
        self.assertNotEqual(ODD, finer)
        self.assertEqual(minimized(ODD), minimized(finer))
        for other in (None, 3, "a", (CELLS, ODD.rows, ODD.accepting), [ODD], A, object()):
            self.assertFalse(ODD == other)
            self.assertTrue(ODD != other)
        self.assertIs(ODD == ODD, True)
        self.assertIs(ODD == finer, False)


class MinimizedTest(LeastFormCase):
    def check(self, machine):
        before = (machine.cells, machine.rows, machine.accepting)
        least = minimized(machine)
        self.check_form(least)
        self.check_alike(machine, least)
        self.assertEqual(minimized(least), least)
        self.assertEqual((machine.cells, machine.rows, machine.accepting), before)
        return least

    def test_states_that_are_not_reached(self):
        self.assertEqual(self.check(ODD), Machine(CELLS, ((0, 1), (1, 0)), (False, True)))

    def test_states_that_no_text_parts(self):
        machine = Machine(CELLS, ((1, 2), (0, 3), (3, 2), (2, 3)), (False, False, True, True))
        self.assertEqual(self.check(machine), Machine(CELLS, ((0, 1), (1, 1)), (False, True)))
        self.assertEqual(len(self.check(Machine((SIGNS,), ((1,), (2,), (3,), (0,)), (True, False, True, False)))), 2)
        self.assertEqual(len(self.check(Machine((SIGNS,), ((1,), (2,), (3,), (0,)), (True, False, False, False)))), 4)

    def test_one_state_and_one_cell(self):
        for value in (True, False):
            expected = Machine((SIGNS,), ((0,),), (value,))
            self.assertEqual(self.check(Machine(CELLS, ((1, 2), (0, 0), (2, 1)), (value,) * 3)), expected)
            self.assertEqual(self.check(expected), expected)
            every = Machine(tuple(SIGNS), (tuple(range(40)) + (0,) * 56,) * 40, (value,) * 40)
            self.assertEqual(self.check(every), expected)

    def test_cells_that_are_finer_than_needed(self):
        division = tuple(cells(["a", "b", "c"]))
        machine = Machine(division, ((1, 0, 1, 0), (1, 1, 1, 1)), (False, True))
        self.assertEqual(self.check(machine), Machine(tuple(cells(["ac"])), ((1, 0), (1, 1)), (False, True)))
        self.assertEqual(self.check(ODD).cells, CELLS)

    def test_the_order_of_cells_and_states(self):
        # The cells are ordered by their least signs, also when cells are put together.
        division = ("\t", "\n", "".join(sign for sign in SIGNS if sign not in "\t\n"))
        machine = Machine(division, ((2, 1, 2), (0, 0, 0), (1, 1, 1)), (True, False, False))
        least = self.check(machine)
        self.assertEqual(least.cells, ("\t" + division[2], "\n"))
        self.assertEqual(least, Machine(least.cells, ((1, 2), (2, 2), (0, 0)), (True, False, False)))

    def test_equal_texts_give_equal_least_forms(self):
        chance = random.Random(52)
        for _ in range(150):
            machine = random_machine(chance, chance.randrange(1, 6))
            order = [0] + chance.sample(range(1, len(machine)), len(machine) - 1)
            place = {state: order.index(state) for state in order}
            # The states in another order, twice each, and each cell cut in two.
            pieces = [(piece, cell) for cell, text in enumerate(machine.cells) for piece in (text[::2], text[1::2]) if piece]
            pieces.sort()
            rows = []
            for copy in (0, 1):
                for state in order:
                    rows.append(tuple(
                        place[machine.rows[state][cell]] + len(order) * chance.randrange(2) for _, cell in pieces
                    ))
            other = Machine(
                tuple(piece for piece, _ in pieces), tuple(rows), tuple(machine.accepting[state] for state in order) * 2,
            )
            self.check_alike(machine, other)
            self.assertEqual(self.check(machine), self.check(other))

    def test_many_machines(self):
        chance = random.Random(51)
        for _ in range(400):
            self.check(random_machine(chance, chance.choice((1, 2, 3, 4, 5, 7, 12, 30))))


class LeastMachineTest(LeastFormCase):
    def check(self, tree, texts):
        machine = least_machine(tree)
        self.check_form(machine)
        for text in texts:
            self.assertEqual(machine.accepts(text), accepts(tree, text), (tree, text))
        return machine

    def test_example(self):
        machine = least_machine(read_pattern("a*"))
        self.assertEqual((machine.rows, machine.accepting), (((1, 0), (1, 1)), (True, False)))
        others = "".join(sign for sign in SIGNS if sign != "a")
        self.assertEqual(machine.cells, (others, "a"))

    def test_nothing_and_everything(self):
        for pattern in ("[]", "a[]", "a{start}", "{not ahead:}", "{word edge}{no word edge}", "[]<2>|[]"):
            self.assertEqual(least_machine(read_pattern(pattern)), Machine((SIGNS,), ((0,),), (False,)), pattern)
        for pattern in ("[^]*", "(.|\n)*", "|[^]+", "({ahead:a}.|[^])*", "({line start}|{behind:.})[^]*"):
            self.assertEqual(least_machine(read_pattern(pattern)), Machine((SIGNS,), ((0,),), (True,)), pattern)

    def test_simple_trees(self):
        self.assertEqual(least_machine(read_pattern("")), Machine((SIGNS,), ((1,), (1,)), (True, False)))
        self.assertEqual(len(least_machine(read_pattern("abc"))), 5)
        self.assertEqual(len(least_machine(read_pattern("(a|b)*a(a|b)<4>"))), 33)
        self.assertEqual(len(least_machine(read_pattern("(a<2>)*|(a<3>)*"))), 7)
        self.assertEqual(least_machine(read_pattern("(a|b)*")), least_machine(read_pattern("(a*~b*)*{as x:}")))
        self.assertNotEqual(least_machine(read_pattern("a*")), least_machine(read_pattern("b*")))

    def test_equal_texts_give_equal_machines(self):
        for first, second in (
            ("a(b|c)", "ab|ac"), ("{word edge}{word}+{word edge}", "{word}+"), ("{ahead:..}a.", "a."), ("(a*)*", "a*~"),
            ("[^]*{behind:a}", "[^]*a"), ("{not ahead:[^]*ba}[ab]*", "a*b*"), ("{line start}.*{line end}", ".*"),
            ("{as x:a}+{as y:b}?", "a*(a|ab)"), ("(|a)<3>", "a<0,3>"), ("{start}a|{end}a|a{start}", "a"), ("{end}|{ahead:a}.", "a?"),
        ):
            self.assertEqual(least_machine(read_pattern(first)), least_machine(read_pattern(second)), (first, second))

    def test_trees_of_each_form(self):
        for tree in trees_of_each_form():
            if "same" not in repr(tree):
                self.check(tree, ["", "a", "ab", "ba", "\n", "aaaaa", "c", " "])

    def test_many_trees(self):
        for kinds in (("look", "edge"), (), ("edge",)):
            for tree, text, _ in dense_cases(53, 250, kinds=kinds, depths=(3, 4, 4, 5)):
                self.check(tree, [text, text[::-1], text + "ab"] + list(texts_up_to(telling_signs(tree), 2)))

    def test_repeats_whose_body_can_be_empty(self):
        for outer in ("*", "+~", "<2,>", "<2,3>", "?~"):
            for inner in ("*", "+~", "<2>", "?"):
                for body in ("a", "(|a)", "{start}", "({ahead:a}|b)", "{as x:a?}"):
                    tree = read_pattern("((" + body + ")" + inner + ")" + outer + "b")
                    self.check(tree, texts_up_to("ab", 4))

    def test_looks(self):
        growing = Dense(530, kinds=("look",))
        for _ in range(150):
            tree = seq(growing.grow(3, False), repeat(("set", "ab"), 0, None), growing.grow(3, False))
            self.check(tree, texts_up_to("ab", 5))

    def test_not_regular(self):
        for tree in (same("x"), seq(group("x", A), same("x")), seq(group("x", A), look(B), repeat(same("x"), 0, 0))):
            with self.assertRaises(NotRegular):
                least_machine(tree)


if __name__ == "__main__":
    unittest.main()
