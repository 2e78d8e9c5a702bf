"""Texts with two ways: points [5], [14], [55] and [57] (surespan.twofold)."""

import unittest

from surespan.alphabet import texts_up_to
from surespan.errors import NotRegular
from surespan.measures import weight
from surespan.reading import read_pattern
from surespan.trees import is_regular
from surespan.twofold import twofold
from surespan.waycounts import whole_ways
from tests.samples import A, B, dense_cases, group, look, repeat, same, seq, telling_signs, trees_of_each_form


class TwofoldTest(unittest.TestCase):
    def check(self, tree, size=4):
        """Check the text that is found by all texts up to a size over signs that the tree can tell apart."""
        found = twofold(tree)
        signs = telling_signs(tree)
        size = size if len(signs) <= 4 else size - 1
        expected = next((text for text in texts_up_to(signs, size) if whole_ways(tree, text) > 1), None)
        if expected is None and found is not None:
            self.assertGreater(len(found), size, tree)
            self.assertGreater(whole_ways(tree, found), 1, tree)
        else:
            self.assertEqual(found, expected, tree)
        return found

    def check_pattern(self, pattern, expected, size=4):
        tree = read_pattern(pattern)
        self.assertEqual(twofold(tree), expected, pattern)
        self.check(tree, size)

    def test_example(self):
        self.assertEqual(twofold(read_pattern("a*a*")), "a")

    def test_no_text(self):
        for pattern in (
            "", "[]", "a", "a*", "a*b*", "a|b", "(ab)*", "(a|b)*a(a|b)<4>", "a?b?", "(a*b)*", "[]a*a*", "(a|a)[]", "{start}{end}|a",
            "({word}+{blank}+)*", "(a|[])*", "a|b|c*d", "((a<2>)*|b(a<3>)*)", "{ahead:a|a}.", "a<2,5>", "(a|b)*~c",
        ):
            self.check_pattern(pattern, None)

    def test_the_least_text(self):
        for pattern, expected in (
            ("|", ""), ("a|a", "a"), ("a|[a-c]|b", "a"), ("b*b*|a*a*", ""), ("b+b*|a+a*", "aa"), ("(b|c)(b|c)|b[ab]", "bb"), ("(ab|a)(b|c)*", "ab"),
            ("(a<2>)*|(a<3>)*", ""), ("(a<2>)+|(a<3>)+", "aaaaaa"), ("[bc]+|[cd]+", "c"), (".*.*", "\t"), ("[^]*[^]*", "\t"),
            ("(a|ab)(c|bc)", "abc"), ("\n*\n*", "\n"), ("aab|b|aab|b", "b"), ("(ab)*(ba)*|aba?", "ab"), ("a*ba*|b|c|c", "b"),
        ):
            self.check_pattern(pattern, expected)

    def test_ways_and_not_outcomes(self):
        # Two ways with one outcome are still two ways; with different rows they are, too.
        self.check_pattern("{as x:a}|{as x:a}", "a")
        self.check_pattern("{as x:a}|{as y:a}", "a")
        self.check_pattern("({as x:a}|b)*{as x:a?}", "a")

    def test_repeats_whose_body_can_be_empty(self):
        for pattern, expected in (
            ("(a?)*", None), ("(a|)*", None), ("(|)*", None), ("(|)<2>", ""), ("(|)+", ""), ("(a?)<2>", "a"), ("(a?)+", "a"), ("(a*)*", "aa"),
            ("(a?b?)*", "ab"), ("((a|)*)*", "aa"), ("((a|)*)<2>", "a"), ("(a?|b?)*", None), ("(a?|b?)<1>", ""), ("(a?|b?)<0,1>", None),
            ("({start}|a)*", None), ("({start}|{end})<1>", ""), ("({start}|{end})?", None),
        ):
            self.check_pattern(pattern, expected)

    def test_looks_and_edges(self):
        for pattern, expected in (
            ("a|{ahead:a}.", "a"), ("a|{not ahead:a}.", None), ("a*{behind:b}a*|[^]", None), ("(a|{behind:aa}a|b)*", "aaa"), ("a|{start}a", "a"),
            ("(a|{line start}a|\n)*", "a"), (".a|({not behind:b}|)ca|.{behind:b}", "ca"), ("(a|{word edge}a)*", "a"), ("b(a|{word edge}a)*", None),
            ("({ahead:a}|{ahead:b}|{ahead:[ab]})[^]", "a"), ("({ahead:[ab]}|{ahead:[bc]}).", "b"), ("({ahead:.*b}|{ahead:.*c})[^]*", "bc"),
            ("({not ahead:.*b}|{not ahead:.*c}|a)[^]*", ""), ("({ahead:.b}|{ahead:.*c})[^]*", "cb"), ("({end}|{start})[^]?", ""),
            ("({end}|{no word edge}a)a*|[^]", None), ("{ahead:b}(.|a)*|.*", "b"), ("({not behind:a}.|{behind:a}.)*|a", "a"),
            ("({line start}|{line end})a?\n?", ""), ("({ahead:a}|{ahead:a})b|c", None), ("({behind:a}b|{behind:a}b|a)*", "ab"),
        ):
            self.check_pattern(pattern, expected)

    def test_longer_texts(self):
        self.check_pattern("((a<3>)*|(a<4>)*b?)c", "c")
        self.check_pattern("(a<7>)*b|(a<8>)*b{not behind:c.*}{behind:a.*}", "a" * 56 + "b")
        self.check_pattern("({ahead:(a<5>)*b}|{ahead:(a<7>)*b})aa*b", "a" * 35 + "b")

    def test_trees_of_each_form(self):
        for tree in trees_of_each_form():
            if is_regular(tree):
                self.check(tree)

    def test_many_trees(self):
        for kinds in (("look", "edge"), (), ("edge",)):
            for tree, _, _ in dense_cases(570, 300, kinds=kinds, depths=(3, 4, 4, 5)):
                if weight(tree) <= 24:
                    self.check(tree)

    def test_not_regular(self):
        for tree in (same("x"), seq(group("x", A), same("x")), seq(group("x", A), look(B), repeat(same("x"), 0, 0))):
            with self.assertRaises(NotRegular):
                twofold(tree)


if __name__ == "__main__":
    unittest.main()
