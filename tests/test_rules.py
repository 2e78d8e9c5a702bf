"""Lists of trees: points [14] and [50]."""

import unittest

from surespan.alphabet import texts_up_to
from surespan.errors import NotRegular
from surespan.meaning import accepts
from surespan.reading import read_pattern
from surespan.rules import winner, winning_text
from tests.samples import A, B, group, pairs_of_trees, repeat, same, seq, telling_signs


def trees_of(*patterns):
    return [read_pattern(pattern) for pattern in patterns]


def first_accepting(trees, text):
    return next((number for number, tree in enumerate(trees) if accepts(tree, text)), None)


class RulesTest(unittest.TestCase):
    def check(self, trees, signs, length):
        for number in range(len(trees)):
            found = winning_text(trees, number)
            fitting = (text for text in texts_up_to(signs, length) if first_accepting(trees, text) == number)
            expected = next(fitting, None)
            if found is not None and len(found) > length:
                self.assertIsNone(expected)
                self.assertEqual(first_accepting(trees, found), number)
            else:
                self.assertEqual(found, expected, (trees, number))
            if found is not None:
                self.assertEqual(winner(trees, found), number)
        for text in texts_up_to(signs, 2):
            self.assertEqual(winner(trees, text), first_accepting(trees, text))

    def test_example(self):
        trees = trees_of("a*", "a", "b|a")
        self.assertEqual([winning_text(trees, number) for number in range(3)], ["", None, "b"])

    def test_winner(self):
        trees = trees_of("if|else", "[a-z]+", "{digit}+", "[a-z][a-z0-9]*")
        found = [winner(trees, text) for text in ("if", "iff", "i", "12", "a1", "1a", "", "else")]
        self.assertEqual(found, [0, 1, 1, 2, 3, None, None, 0])
        self.assertIsNone(winner(trees_of("a"), "b"))
        self.assertEqual(winner(trees_of("{as x:a}|b", "a"), "a"), 0)

    def test_the_empty_list(self):
        self.assertIsNone(winner([], ""))
        self.assertIsNone(winner([], "a"))
        for number in (-1, 0, 1):
            self.assertIsNone(winning_text([], number))

    def test_numbers_of_no_tree(self):
        trees = trees_of("a", "b", "c")
        self.assertEqual([winning_text(trees, number) for number in range(3)], ["a", "b", "c"])
        for number in (3, 4, -1, -2, -3, -4, 10 ** 30):
            self.assertIsNone(winning_text(trees, number))

    def test_a_tree_that_never_wins(self):
        self.assertIsNone(winning_text(trees_of("[^]*", "a"), 1))
        self.assertIsNone(winning_text(trees_of("a+", "aa*", "b"), 1))
        self.assertIsNone(winning_text(trees_of("a+b", "c", "[]", "ab|c"), 3))
        self.assertIsNone(winning_text(trees_of("[]"), 0))
        self.assertIsNone(winning_text(trees_of("(a|b)*a", "(a|b)*b|", "[ab]*"), 2))

    def test_equal_trees(self):
        trees = trees_of("ab?", "ab?", "ab?")
        self.assertEqual([winning_text(trees, number) for number in range(3)], ["a", None, None])
        self.assertEqual(winner(trees, "ab"), 0)

    def test_only_the_trees_before_count(self):
        trees = trees_of("a|b", "[a-d]", "[a-f]", "[^]*")
        self.assertEqual([winning_text(trees, number) for number in range(4)], ["a", "c", "e", ""])
        self.assertEqual(winning_text(trees_of("a", "[^]*", "a|b"), 0), "a")

    def test_edges_looks_and_groups(self):
        trees = trees_of("{ahead:.*b}[ab]*", "{as x:[ab]}*a", "({word edge}[^]{word edge})*", "[^]")
        self.assertEqual([winning_text(trees, number) for number in range(4)], ["b", "a", "", "\t"])

    def test_many_lists(self):
        lists = []
        for kinds, seed in ((("look", "edge"), 500), ((), 501)):
            pairs = [list(pair) for pair in pairs_of_trees(seed, 60, kinds)]
            lists += pairs + [pairs[k] + pairs[k + 1] + pairs[k + 2] for k in range(0, 57, 3)]
        for trees in lists:
            signs = telling_signs(*trees)
            self.check(trees, signs, 3 if len(signs) > 4 else 4)

    def test_not_regular(self):
        for tree in (same("x"), seq(group("x", A), same("x")), repeat(same("x"), 0, 0)):
            for trees in ([tree], [A, tree], [tree, A], [A, B, tree]):
                with self.assertRaises(NotRegular):
                    winner(trees, "a")
                for number in (-1, 0, 1, 7):
                    with self.assertRaises(NotRegular):
                        winning_text(trees, number)


if __name__ == "__main__":
    unittest.main()
