"""End lists and exchanged trees: points [14], [82] and [83]."""

import unittest

from surespan.alphabet import SIGNS, texts_up_to
from surespan.errors import NotPlain
from surespan.exchanges import end_list, list_parting
from surespan.meaning import first_answer, first_way
from surespan.reading import read_pattern
from tests import reference
from tests.samples import (
    A, B, Dense, alt, dense_cases, edge, group, look, pairs_of_trees, repeat, same, seq, telling_signs,
)


def expected_list(tree, text):
    """Return the end list word for word."""
    return reference.first_of_each_end(way[:2] for way in reference.ways(tree, text, 0, ()))


def part(first, second):
    return list_parting(read_pattern(first), read_pattern(second))


class EndListTest(unittest.TestCase):
    def check(self, tree, text):
        found = end_list(tree, text)
        self.assertIs(type(found), list)
        self.assertEqual(found, expected_list(tree, text), (tree, text))

    def test_example(self):
        found = end_list(read_pattern("a?{as x:b}*"), "ab")
        self.assertEqual(found, [(2, (("x", 1, 2),)), (1, ()), (0, ())])

    def test_the_order_of_the_ends(self):
        self.assertEqual(end_list(read_pattern("a|ab|()"), "ab"), [(1, ()), (2, ()), (0, ())])
        self.assertEqual(end_list(read_pattern("a*~"), "aab"), [(0, ()), (1, ()), (2, ())])
        self.assertEqual(end_list(read_pattern("a*"), "aab"), [(2, ()), (1, ()), (0, ())])
        self.assertEqual(end_list(read_pattern("(aaa|a)(a|)"), "aaaa"), [(4, ()), (3, ()), (2, ()), (1, ())])
        self.assertEqual(end_list(read_pattern("(a|aaa)(|a)"), "aaaa"), [(1, ()), (2, ()), (3, ()), (4, ())])
        self.assertEqual(end_list(read_pattern("[]"), "a"), [])
        self.assertEqual(end_list(read_pattern("b"), "a"), [])
        self.assertEqual(end_list(read_pattern("a*"), ""), [(0, ())])

    def test_the_row_is_that_of_the_first_way_with_the_end(self):
        self.assertEqual(end_list(read_pattern("{as x:a}|{as y:a}"), "a"), [(1, (("x", 0, 1),))])
        self.assertEqual(end_list(read_pattern("{as x:a}{as y:b}|a|ab"), "ab"), [(2, (("x", 0, 1), ("y", 1, 2))), (1, ())])
        self.assertEqual(end_list(read_pattern("({as x:a}|b)*"), "ab"), [(2, (("x", 0, 1),)), (1, (("x", 0, 1),)), (0, ())])

    def test_many_trees(self):
        for tree, text, _ in dense_cases(82, 1500, kinds=()):
            if reference.few_ways(tree, text) is not None:
                self.check(tree, text)

    def test_not_plain(self):
        for tree in (edge("end"), look(A), seq(A, edge("start")), same("x"), seq(group("x", A), same("x"))):
            for text in ("", "a"):
                with self.assertRaises(NotPlain):
                    end_list(tree, text)
            for pair in ((tree, A), (A, tree), (tree, tree), (repeat(tree, 0, 0), B)):
                with self.assertRaises(NotPlain):
                    list_parting(*pair)


class ListPartingTest(unittest.TestCase):
    def check(self, tree, other, signs, length):
        found = list_parting(tree, other)
        expected = next(
            (text for text in texts_up_to(signs, length) if end_list(tree, text) != end_list(other, text)), None,
        )
        if found is not None and len(found) > length:
            self.assertIsNone(expected, (tree, other, found))
            self.assertNotEqual(end_list(tree, found), end_list(other, found))
        else:
            self.assertEqual(found, expected, (tree, other))
        return found

    def test_examples(self):
        self.assertEqual(part("a|ab", "ab|a"), "ab")
        self.assertIsNone(part("(a*)*", "a*"))

    def test_different_ends(self):
        self.assertEqual(part("a", "b"), "a")
        self.assertEqual(part("[]", "()"), "")
        self.assertEqual(part("a*", "a+"), "")
        self.assertEqual(part("[^]?", "[^\\n]?"), "\n")
        self.assertEqual(part("a<9>", "a<8>"), "a" * 8)

    def test_equal_ends_in_different_order(self):
        self.assertEqual(part("a*", "a*~"), "a")
        self.assertEqual(part("(|a)b?", "(a|)b?"), "a")
        self.assertEqual(part("(a|aa)(b|)", "(aa|a)(b|)"), "aa")
        self.assertEqual(part("a|aaa|aa", "a|aa|aaa"), "aaa")
        self.assertEqual(part("(ab|a|b)c?", "(a|ab|b)c?"), "ab")
        self.assertEqual(part("(x|xyz|xy)", "(xyz|x|xy)"), "xyz")
        # A first way alone does not tell these apart.
        self.assertEqual(part("aaa|a|aa", "aaa|aa|a"), "aa")
        self.assertEqual(part("ab<3>|a|ab", "ab<3>|ab|a"), "ab")
        self.assertEqual(part("(a|ab)(c|bcd|)", "(ab|a)(bcd|c|)"), "ab")
        self.assertIsNone(part("(a|b)(c|d)", "ac|ad|bc|bd"))

    def test_equal_ends_with_different_rows(self):
        self.assertEqual(part("{as x:a}", "a"), "a")
        self.assertEqual(part("{as x:a}", "{as y:a}"), "a")
        self.assertEqual(part("{as x:a*}b*", "{as x:a*b*}"), "b")
        self.assertEqual(part("{as x:}a", "a{as x:}"), "a")
        self.assertEqual(part("({as x:a}|b)*", "({as x:a}|{as x:b})*"), "b")
        self.assertEqual(part("a(b|{as x:bc})", "a(b|bc)"), "abc")
        self.assertEqual(part("a|{as x:ab}", "a|ab"), "ab")
        # The row of the first way with an end counts, and no later one.
        self.assertIsNone(part("ab|{as x:ab}", "ab"))
        self.assertIsNone(part("{as x:a}<2>", "a{as x:a}"))
        self.assertIsNone(part("({as x:a}|{as y:a})*", "{as x:a}*"))

    def test_trees_that_never_differ(self):
        for first, second in (
            ("a|a", "a"), ("(a|b)c", "ac|bc"), ("a?~", "|a"), ("a?", "a|"), ("(a|)(b|)", "ab|a|b|"), ("a<0,2>", "(a(a|)|)"),
            ("[]", "a[]"), ("(a|[])", "a"), ("a*", "(a+|)"), ("(a*)*~", "|a+"), ("{as x:(a|b)*}", "{as x:[ab]*}"),
            ("((a|b)*c)*", "([ab]*c)*"), ("(a|b)*a(a|b)<3>", "[ab]*a[ab]<3>"), ("(a?)<3>", "aaa|aa|a|"),
        ):
            self.assertIsNone(part(first, second), (first, second))
            self.assertIsNone(part(second, first), (first, second))

    def test_many_pairs(self):
        counts = {}
        for tree, other in pairs_of_trees(820, 500, kinds=()):
            signs = "".join(sign for sign in telling_signs(tree, other) if sign in "\tab\n")
            found = self.check(tree, other, signs, 4)
            counts[found is None] = counts.get(found is None, 0) + 1
        self.assertTrue(min(counts.values()) > 150, counts)

    def test_pairs_that_differ_in_order_alone(self):
        growing = Dense(821, kinds=())
        differing = 0
        for _ in range(300):
            parts = [growing.tree(growing.chance.choice((2, 3))) for _ in range(3)]
            other = growing.chance.sample(parts, 3)
            found = self.check(("alt", tuple(parts)), ("alt", tuple(other)), "\nab", 4)
            differing += found is not None and len(found) > 1
        self.assertGreater(differing, 30)

    def test_over_all_signs(self):
        for tree, other in pairs_of_trees(822, 40, kinds=()):
            self.check(tree, other, SIGNS, 1)

    def test_both_orders(self):
        for tree, other in pairs_of_trees(823, 100, kinds=()):
            self.assertEqual(list_parting(tree, other), list_parting(other, tree))


class ExchangeTest(unittest.TestCase):
    def surroundings(self, tree):
        """Return trees in which the given one is a node."""
        return [
            tree, seq(tree, A), seq(B, tree, edge("end")), repeat(tree, 0, None), repeat(tree, 2, None, True), look(tree)
            if "group" not in repr(tree) else tree, group("x", tree), alt(seq(tree, B), tree), repeat(seq(tree, B), 1, 3),
            seq(repeat(group("y", tree), 0, None), alt(look(B), edge("end"))), seq(repeat(tree, 0, 1), group("x", repeat(A, 0, None))),
        ]

    def test_trees_that_are_not_parted_can_be_exchanged(self):
        exchanged = 0
        for tree, other in pairs_of_trees(83, 500, kinds=()):
            if tree != other and list_parting(tree, other) is None:
                exchanged += 1
                for first, second in zip(self.surroundings(tree), self.surroundings(other)):
                    for text in ("", "a", "b", "ab", "aab", "abb", "baab"):
                        self.assertEqual(first_way(first, text), first_way(second, text), (first, second, text))
                        self.assertEqual(first_way(first, text, whole=True), first_way(second, text, whole=True))
                        self.assertEqual(first_answer(first, text), first_answer(second, text))
        self.assertGreater(exchanged, 50)


if __name__ == "__main__":
    unittest.main()
