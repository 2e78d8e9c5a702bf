"""The tree that is left of a plain tree after a sign: points [14] and [45]."""

import unittest

from surespan.alphabet import texts_up_to
from surespan.errors import NotPlain
from surespan.meaning import first_way, outcomes
from surespan.measures import depth, size, weight
from surespan.reading import read_pattern
from surespan.treeafter import tree_after
from surespan.trees import check_tree, group_names, is_plain
from tests import reference
from tests.samples import A, B, EMPTY, NOTHING, Dense, Growing, alt, edge, group, look, repeat, same, seq


def end_order(tree, text):
    return list(dict.fromkeys(end for end, _ in outcomes(tree, text)))


class TreeAfterTest(unittest.TestCase):
    def check(self, tree, sign, texts, order=end_order):
        """Check the tree that is left on these texts; return it."""
        left = tree_after(tree, sign)
        check_tree(left)
        self.assertTrue(is_plain(left))
        self.assertEqual(group_names(left), [])
        for text in texts:
            expected = [end - 1 for end in order(tree, sign + text) if end > 0]
            self.assertEqual(order(left, text), expected, (tree, sign, text, left))
        return left

    def test_example(self):
        left = tree_after(read_pattern("ab|ac"), "a")
        self.assertEqual(first_way(left, "c"), (1, ()))
        self.assertIsNone(first_way(left, "a"))

    def test_simple_trees(self):
        self.assertEqual(outcomes(tree_after(A, "a"), "a"), [(0, ())])
        self.assertEqual(outcomes(tree_after(A, "b"), "a"), [])
        self.assertEqual(outcomes(tree_after(EMPTY, "a"), "a"), [])
        self.assertEqual(outcomes(tree_after(NOTHING, "a"), ""), [])
        self.assertEqual(outcomes(tree_after(repeat(A, 0, None), "a"), "aa"), [(2, ()), (1, ()), (0, ())])
        self.assertEqual(outcomes(tree_after(repeat(A, 0, None, True), "a"), "aa"), [(0, ()), (1, ()), (2, ())])
        self.assertEqual(outcomes(tree_after(repeat(A, 0, 0), "a"), "aa"), [])

    def test_the_ends_keep_their_order(self):
        texts = list(texts_up_to("ab", 4))
        for pattern in (
            "a|ab", "ab|a", "(a|ab)(b|)", "a?ab", "a?~ab", "(|a)ab|ab?", "(a||b)(ab|)", "(a|ab|)*", "(ab?~)*~", "a<2>", "a<2,3>~",
            "(a?)<3>", "(a?~)<2,>", "((a|)b)<2>", "(a*b?)*", "((a*)*)*", "(a*~|b)+", "(b|(a|)*)<2,>", "a[]|ab", "(a|[])*b", "[]*a",
            "(()|())a", "(a?b?)<2,4>", "(|(|(|a)))b?", "((|a)<2>|b)<2>",
        ):
            for sign in "ab":
                self.check(read_pattern(pattern), sign, texts)

    def test_iterations_that_read_nothing(self):
        texts = list(texts_up_to("ab", 3))
        for outer in ("*", "*~", "+", "+~", "<2,>", "<2,3>", "<1,2>~", "?~", "<3>", "<0>"):
            for inner in ("*", "*~", "+~", "<2>", "?", "?~", "<0>"):
                for body in ("a", "(a|)", "(|a)", "(|ab|b)"):
                    self.check(read_pattern("((" + body + ")" + inner + ")" + outer), "a", texts)

    def test_groups_are_left_out(self):
        tree = read_pattern("({as x:a{as y:b?}}|{as x:})*{as z:a}")
        for sign in "ab":
            self.check(tree, sign, texts_up_to("ab", 4))

    def test_signs_of_sets(self):
        for sign in "\t\n ~z":
            self.check(read_pattern("[^a].|\t\n|( )*~"), sign, ["", "\n", "\t", " ", "a "])

    def test_many_trees(self):
        texts = list(texts_up_to("ab", 3))
        growing = Dense(450, kinds=())
        for _ in range(1500):
            tree = growing.tree(growing.chance.choice((2, 3, 4, 5)))
            self.check(tree, growing.chance.choice("ab"), texts)
        growing = Growing(451, kinds=())
        for _ in range(500):
            self.check(growing.tree(4), "a", texts)

    def test_against_the_document_word_for_word(self):
        growing = Dense(452, kinds=())
        for _ in range(700):
            tree = growing.tree(growing.chance.choice((3, 4)))
            if reference.few_ways(tree, "aaaa") is not None:
                self.check(tree, "a", ["", "a", "aa", "aaa"], reference.end_order)

    def test_parts_that_match_nothing_are_left_out(self):
        self.assertEqual(tree_after(read_pattern("a[]|ab"), "a"), B)
        self.assertEqual(tree_after(read_pattern("a[]|b"), "a"), NOTHING)

    def test_again_and_again_on_its_own_results(self):
        growing = Dense(453, kinds=())
        signs = growing.chance
        far = 0
        for _ in range(400):
            tree = growing.tree(signs.choice((3, 4)))
            left, read = tree, ""
            while len(read) < 8 and size(left) <= 60 and depth(left) <= 12 and weight(left) <= 60:
                sign = signs.choice("aab")
                left, read = self.check(left, sign, ["", "a", "b", "ab"]), read + sign
                for text in ("", "a", "ba"):
                    whole = end_order(tree, read + text)
                    expected = [end - len(read) for end in whole if end >= len(read)]
                    self.assertEqual(end_order(left, text), expected, (tree, read, text))
            far += len(read) == 8
        self.assertGreater(far, 300)

    def test_what_is_left_does_not_grow_without_bound(self):
        for pattern in ("(a|b)*a(a|b)<5>", "((a*)*b?)*", "(a?)<9>", "(a?b?c?)*", "((a|ab)(c|bcd))*", "(a*a*a*)*"):
            left = read_pattern(pattern)
            for sign in "ab" * 30:
                left = tree_after(left, sign)
                self.assertLess(size(left), 300, pattern)

    def test_not_plain(self):
        for tree in (edge("end"), look(A), seq(A, edge("start")), alt(A, look(B, "behind")), same("x"), seq(group("x", A), same("x"))):
            with self.assertRaises(NotPlain):
                tree_after(tree, "a")
            with self.assertRaises(NotPlain):
                tree_after(repeat(tree, 0, 0), "b")


if __name__ == "__main__":
    unittest.main()
