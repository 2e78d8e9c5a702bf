"""Derivations: points [34] to [36]."""

import itertools
import types
import unittest

from surespan.derivations import derivations, derive
from surespan.reading import read_pattern
from surespan.replaying import earlier, replay
from tests import reference
from tests.samples import A, B, EDGE_KINDS, EMPTY, NOTHING, alt, dense_cases, edge, group, look, repeat, same, seq

ONE = ("set",)


class DeriveTest(unittest.TestCase):
    def test_example(self):
        self.assertEqual(derive(read_pattern("a|{as x:b}"), "b"), ("alt", 1, ("group", ("set",))))

    def test_each_form(self):
        self.assertEqual(derive(EMPTY, "a"), ("empty",))
        self.assertEqual(derive(A, "a"), ("set",))
        self.assertEqual(derive(seq(A, EMPTY, B), "ab"), ("seq", (("set",), ("empty",), ("set",))))
        self.assertEqual(derive(alt(A, B, EMPTY), "b"), ("alt", 1, ("set",)))
        self.assertEqual(derive(alt(A, B, EMPTY), "c"), ("alt", 2, ("empty",)))
        self.assertEqual(derive(repeat(A, 0, None), "aab"), ("repeat", (ONE, ONE)))
        self.assertEqual(derive(repeat(A, 0, None, True), "aab"), ("repeat", ()))
        self.assertEqual(derive(repeat(A, 1, None, True), "aab"), ("repeat", (ONE,)))
        self.assertEqual(derive(repeat(A, 0, 0), "aab"), ("repeat", ()))
        self.assertEqual(derive(repeat(EMPTY, 2, 5), ""), ("repeat", (("empty",), ("empty",))))
        self.assertEqual(derive(group("x", group("y", A)), "a"), ("group", ("group", ("set",))))
        self.assertEqual(derive(look(seq(A, B)), "ab"), ("look",))
        self.assertEqual(derive(edge("start"), "ab"), ("edge",))
        self.assertEqual(derive(seq(group("x", A), same("x")), "aa"), ("seq", (("group", ("set",)), ("same",))))

    def test_no_way(self):
        self.assertIsNone(derive(A, "b"))
        self.assertIsNone(derive(A, "ab", whole=True))
        self.assertIsNone(derive(seq(A, NOTHING), "ab"))

    def test_whole_ways_and_other_indexes(self):
        tree = read_pattern("a|ab")
        self.assertEqual(derive(tree, "ab"), ("alt", 0, ("set",)))
        self.assertEqual(derive(tree, "ab", whole=True), ("alt", 1, ("seq", (ONE, ONE))))
        self.assertEqual(derive(tree, "bab", 1, whole=True), ("alt", 1, ("seq", (ONE, ONE))))
        self.assertEqual(derive(tree, text="bab", index=1), ("alt", 0, ("set",)))
        self.assertIsNone(derive(tree, "bab"))

    def test_lazy_and_nested_choices(self):
        tree = read_pattern("((a|b)*~c|d)<1,2>")
        expected = ("repeat", (
            ("alt", 0, ("seq", (("repeat", (("alt", 1, ONE), ("alt", 0, ONE))), ONE))), ("alt", 1, ONE),
        ))
        self.assertEqual(derive(tree, "bacd"), expected)
        self.assertEqual(derive(tree, "bacdc", whole=True), None)

    def test_against_the_document_word_for_word(self):
        for tree, text, index in dense_cases(51, 2000):
            ways = reference.few_ways(tree, text, index)
            if ways is not None:
                expected = next((told for end, row, told in ways), None)
                self.assertEqual(derive(tree, text, index), expected, (tree, text, index))
                expected = next((told for end, row, told in ways if end == len(text)), None)
                self.assertEqual(derive(tree, text, index, whole=True), expected, (tree, text, index))


class DerivationsTest(unittest.TestCase):
    def test_order(self):
        tree = read_pattern("(a|a)b?")
        found = list(derivations(tree, "ab"))
        self.assertEqual(found, [
            ("seq", (("alt", number, ONE), ("repeat", below))) for number in (0, 1) for below in ((ONE,), ())
        ])
        self.assertEqual(list(derivations(tree, text="cab", index=1)), found)
        self.assertEqual(list(derivations(tree, "b")), [])

    def test_ways_with_one_outcome_have_different_derivations(self):
        found = list(derivations(read_pattern("(a|a|a)<2>"), "aa"))
        self.assertEqual(found, [
            ("repeat", (("alt", m, ONE), ("alt", n, ONE))) for m, n in itertools.product(range(3), repeat=2)
        ])

    def test_against_the_document_word_for_word(self):
        for tree, text, index in dense_cases(52, 2000):
            ways = reference.few_ways(tree, text, index)
            if ways is not None:
                expected = [told for end, row, told in ways]
                self.assertEqual(list(derivations(tree, text, index)), expected, (tree, text, index))

    def test_each_derivation_is_found_only_when_it_is_read(self):
        # There are 2 ** 300 ways in all.
        found = derivations(read_pattern("(a|a)*"), "a" * 300)
        self.assertIsInstance(found, types.GeneratorType)
        first, second = itertools.islice(found, 2)
        self.assertEqual(first, ("repeat", (("alt", 0, ONE),) * 300))
        self.assertEqual(second, ("repeat", (("alt", 0, ONE),) * 299 + (("alt", 1, ONE),)))

    def test_two_generators_do_not_share_their_state(self):
        tree = read_pattern("(a|{as x:a})*")
        expected = list(derivations(tree, "aa"))
        one, other = derivations(tree, "aa"), derivations(tree, "aa")
        self.assertEqual(next(one), expected[0])
        self.assertEqual(list(other), expected)
        self.assertEqual(list(one), expected[1:])


class ReplayTest(unittest.TestCase):
    def test_example(self):
        tree = read_pattern("a|{as x:b}")
        self.assertEqual(replay(tree, "b", 0, ("alt", 1, ("group", ("set",)))), (1, (("x", 0, 1),)))

    def test_each_derivation_replays_to_its_way(self):
        for tree, text, index in dense_cases(53, 2000):
            ways = reference.few_ways(tree, text, index)
            if ways is not None:
                for end, row, told in ways[:50]:
                    self.assertEqual(replay(tree, text, index, told), (end, row), (tree, text, index, told))

    def test_derivations_of_other_trees_and_texts(self):
        cases = list(dense_cases(54, 500, depths=(2, 2, 3)))
        foreign = []
        for tree, text, index in cases:
            foreign.extend(told for end, row, told in reference.ways(tree, text, index, ()))
        foreign = sorted(set(foreign), key=repr)
        for at, (tree, text, index) in enumerate(cases):
            ways = {told: (end, row) for end, row, told in reference.ways(tree, text, index, ())}
            for told in foreign[at::20]:
                self.assertEqual(replay(tree, text, index, told), ways.get(told), (tree, text, index, told))

    def test_another_kind(self):
        trees = [EMPTY, A, seq(EMPTY, EMPTY), alt(EMPTY, EMPTY), repeat(EMPTY, 0, 1), group("x", EMPTY), look(EMPTY),
                 edge("start"), same("x")]
        told = [("empty",), ONE, ("seq", (("empty",), ("empty",))), ("alt", 0, ("empty",)), ("repeat", ()),
                ("group", ("empty",)), ("look",), ("edge",), ("same",)]
        for tree, (at, below) in itertools.product(trees, enumerate(told)):
            fits = trees.index(tree) == at and tree != same("x")
            self.assertEqual(replay(tree, "a", 0, below) is not None, fits, (tree, below))
            inside = replay(seq(EMPTY, tree), "a", 0, ("seq", (("empty",), below)))
            self.assertEqual(inside is not None, fits, (tree, below))

    def test_wrong_numbers_of_parts(self):
        tree = seq(A, A)
        self.assertEqual(replay(tree, "aaa", 0, ("seq", (ONE, ONE))), (2, ()))
        for count in (0, 1, 3, 4):
            self.assertIsNone(replay(tree, "aaaaa", 0, ("seq", (ONE,) * count)))

    def test_numbers_of_branches(self):
        tree = alt(A, A, A)
        for number in (-4, -3, -2, -1, 3, 4, 10 ** 40, -10 ** 40):
            self.assertIsNone(replay(tree, "a", 0, ("alt", number, ONE)), number)
        for number in (0, 1, 2):
            self.assertEqual(replay(tree, "a", 0, ("alt", number, ONE)), (1, ()))
        self.assertIsNone(replay(alt(A, B), "a", 0, ("alt", 1, ONE)))

    def test_wrong_numbers_of_iterations(self):
        tree = repeat(A, 2, 3)
        for count, expected in ((0, None), (1, None), (2, (2, ())), (3, (3, ())), (4, None)):
            self.assertEqual(replay(tree, "aaaaa", 0, ("repeat", (ONE,) * count)), expected)
        tree = repeat(A, 1, None)
        for count, expected in ((0, None), (1, (1, ())), (5, (5, ())), (6, None)):
            self.assertEqual(replay(tree, "aaaaa", 0, ("repeat", (ONE,) * count)), expected)

    def test_iterations_that_do_not_move(self):
        empty = ("empty",)
        for least in (0, 1, 2, 3):
            for count in (0, 1, 2, 3, 4):
                expected = (0, ()) if count == least else None
                self.assertEqual(replay(repeat(EMPTY, least, None), "a", 0, ("repeat", (empty,) * count)), expected)
        tree = repeat(alt(EMPTY, A), 1, None)
        for numbers, expected in (((0,), 0), ((1,), 1), ((0, 1), 1), ((1, 0), None), ((0, 1, 1), 2), ((0, 0, 1), None)):
            told = ("repeat", tuple(("alt", n, ONE if n else empty) for n in numbers))
            self.assertEqual(replay(tree, "aa", 0, told), None if expected is None else (expected, ()))

    def test_leaves_that_do_not_fit_the_text(self):
        self.assertIsNone(replay(A, "b", 0, ONE))
        self.assertIsNone(replay(A, "a", 1, ONE))
        self.assertIsNone(replay(NOTHING, "a", 0, ONE))
        self.assertEqual(replay(A, "ba", 1, ONE), (2, ()))
        for kind in EDGE_KINDS:
            for index in range(4):
                expected = (index, ()) if reference.edge_stands(kind, "a\n-", index) else None
                self.assertEqual(replay(edge(kind), "a\n-", index, ("edge",)), expected)

    def test_looks(self):
        for side, places in (("ahead", [0, 2]), ("behind", [2, 4])):
            for index in range(5):
                here = (index, ())
                found = index in places
                self.assertEqual(replay(look(seq(A, B), side), "abab", index, ("look",)), here if found else None)
                self.assertEqual(replay(look(seq(A, B), side, False), "abab", index, ("look",)), None if found else here)

    def test_groups_and_sames(self):
        tree = read_pattern("({as x:a*}|b){same x}{as x:c?}")
        told = ("seq", (("alt", 0, ("group", ("repeat", (ONE, ONE)))), ("same",), ("group", ("repeat", ()))))
        self.assertEqual(replay(tree, "aaaac", 0, told), (4, (("x", 4, 4),)))
        self.assertEqual(replay(tree, "baaaac", 1, told), (5, (("x", 5, 5),)))
        self.assertIsNone(replay(tree, "aaac", 0, told))
        told = ("seq", (("alt", 1, ONE), ("same",), ("group", ("repeat", ()))))
        self.assertIsNone(replay(tree, "bc", 0, told))

    def test_a_long_derivation(self):
        text = "ab" * 150
        tree = read_pattern("({as x:a}|{behind:a}b)*")
        told = derive(tree, text, whole=True)
        self.assertEqual(len(told[1]), 300)
        self.assertEqual(replay(tree, text, 0, told), (300, (("x", 298, 299),)))


class EarlierTest(unittest.TestCase):
    def check(self, tree, first, second):
        self.assertIs(earlier(tree, first, second), True)
        self.assertIs(earlier(tree, second, first), False)
        self.assertIs(earlier(tree, first, first), False)
        self.assertIs(earlier(tree, second, second), False)

    def test_example(self):
        self.check(read_pattern("a*"), ("repeat", (("set",),)), ("repeat", ()))

    def test_each_form(self):
        none, one, two = ("repeat", ()), ("repeat", (ONE,)), ("repeat", (ONE, ONE))
        self.check(repeat(A, 0, None), two, one)
        self.check(repeat(A, 0, None, True), one, two)
        self.check(repeat(A, 0, None, True), none, two)
        self.check(alt(A, A), ("alt", 0, ONE), ("alt", 1, ONE))
        self.check(alt(A, repeat(A, 0, 1)), ("alt", 1, one), ("alt", 1, none))
        self.check(group("x", repeat(A, 0, 1)), ("group", one), ("group", none))
        tree = seq(repeat(A, 0, None), repeat(A, 0, None, True))
        self.check(tree, ("seq", (two, none)), ("seq", (one, one)))
        self.check(tree, ("seq", (one, none)), ("seq", (one, one)))

    def test_the_first_iteration_that_differs_decides(self):
        for lazy in (False, True):
            tree = repeat(alt(A, A), 0, None, lazy)
            short, long = ("repeat", (("alt", 0, ONE),)), ("repeat", (("alt", 1, ONE), ("alt", 0, ONE)))
            self.check(tree, short, long)
            self.check(tree, ("repeat", (("alt", 0, ONE), ("alt", 1, ONE))), long)
        nested = repeat(repeat(A, 0, None, True), 0, None)
        one, two = ("repeat", (ONE,)), ("repeat", (ONE, ONE))
        self.check(nested, ("repeat", (one, one)), ("repeat", (two,)))
        self.check(nested, ("repeat", (one, one)), ("repeat", (one,)))

    def test_leaves_have_one_way_each(self):
        for tree in (EMPTY, A, look(A), edge("start"), same("x")):
            self.assertIs(earlier(tree, (tree[0],), (tree[0],)), False)

    def test_all_pairs_against_the_document_word_for_word(self):
        for tree, text, index in dense_cases(55, 1000):
            ways = reference.few_ways(tree, text, index)
            if ways is not None:
                told = [below for end, row, below in ways][:12]
                for (m, first), (n, second) in itertools.product(enumerate(told), repeat=2):
                    self.assertIs(earlier(tree, first, second), m < n, (tree, first, second))


if __name__ == "__main__":
    unittest.main()
