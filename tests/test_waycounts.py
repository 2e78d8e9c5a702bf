"""Numbers of ways: points [14], [26], [27], [55] and [56] (surespan.waycounts)."""

import math
import unittest

from surespan.alphabet import texts_up_to
from surespan.errors import NotRegular
from surespan.meaning import accepts
from surespan.reading import read_pattern
from surespan.trees import is_regular
from surespan.walking import each_way
from surespan.waycounts import ways_row, whole_ways
from tests import reference
from tests.samples import A, B, dense_cases, group, look, repeat, same, seq, trees_of_each_form


def row_of_reference(tree, text, index):
    """Return the row of numbers by the ways themselves, or None if there are too many."""
    found = reference.few_ways(tree, text, index)
    if found is None:
        return None
    return [sum(end == at for end, _, _ in found) for at in range(len(text) + 1)]


class WaysTest(unittest.TestCase):
    def check(self, tree, text, index=0):
        expected = row_of_reference(tree, text, index)
        if expected is not None:
            self.assertEqual(ways_row(tree, text, index), expected, (tree, text, index))
            if index == 0:
                self.assertEqual(whole_ways(tree, text), expected[-1])

    def test_example(self):
        self.assertEqual(ways_row(read_pattern("(a|a)*"), "aa"), [1, 2, 4])

    def test_kinds_of_the_values(self):
        found = ways_row(read_pattern("a*|[]"), "ab")
        self.assertIs(type(found), list)
        self.assertTrue(all(type(number) is int for number in found))
        self.assertIs(type(whole_ways(read_pattern("a"), "b")), int)

    def test_trees_of_each_form(self):
        for tree in trees_of_each_form():
            if is_regular(tree):
                for text in ("", "a", "ab", "aaab", "b\na ", "aaaaaaaaa"):
                    for index in range(len(text) + 1):
                        self.check(tree, text, index)

    def test_ways_and_not_outcomes(self):
        for pattern, text, expected in (
            ("a|a", "a", [0, 2]), ("|", "", [2]), ("(|)(|)(|)", "", [8]), ("{as x:a}|{as y:a}", "a", [0, 2]), ("(()|())<9>", "", [512]),
            ("a*a*", "aaa", [1, 2, 3, 4]), ("(a|b|[ab])<2>", "ab", [0, 0, 4]), ("(a?)<2>", "a", [1, 2]), ("(a|aa)*", "aaaa", [1, 1, 2, 3, 5]),
            ("(a*~)<2>", "aa", [1, 2, 3]), ("(a*)*", "aaa", [1, 1, 2, 4]),
        ):
            self.assertEqual(ways_row(read_pattern(pattern), text), expected, pattern)

    def test_iterations_that_end_where_they_began(self):
        for pattern, text, expected in (
            # The first `least` iterations may do so, the later ones may not.
            ("(|a)*", "a", [1, 1]), ("(|a)<1,>", "a", [1, 2]), ("(|a)<2>", "a", [1, 2]), ("(|a)<2,3>", "a", [1, 3]), ("(|)*", "", [1]),
            ("(|)+", "", [2]), ("(|)<3,5>", "", [8]), ("({start}|)*a", "a", [0, 1]), ("({start}|)<2>a", "a", [0, 4]), ("(a?)*", "aa", [1, 1, 1]),
            ("((a?)*)*", "aa", [1, 1, 2]), ("(a?)<0,2>", "a", [1, 1]), ("(a*|b)<2,>~", "a", [1, 3]),
        ):
            self.assertEqual(ways_row(read_pattern(pattern), text), expected, pattern)
            self.check(read_pattern(pattern), text + "ab")

    def test_looks_and_edges(self):
        for pattern, text, index, expected in (
            ("(a|{ahead:a}a)*", "aa", 0, [1, 2, 4]), ("({behind:a}|)b", "ab", 1, [0, 0, 2]), ("({behind:a}|)b", "cb", 1, [0, 0, 1]),
            ("({not ahead:b}|{ahead:a|a})a", "ab", 0, [0, 2, 0]), ("({word edge}|{start}|{line start})a", "a", 0, [0, 3]),
            ("({word edge}|{start}|{line start})a", "\na", 1, [0, 0, 2]), ("a({end}|{line end})", "a", 0, [0, 2]),
            ("(a|{not behind:b}a|{no word edge}a)*", "aa", 1, [0, 1, 3]),
        ):
            self.assertEqual(ways_row(read_pattern(pattern), text, index), expected, pattern)
            self.check(read_pattern(pattern), text, index)

    def test_other_indexes(self):
        tree = read_pattern("b*a")
        self.assertEqual(ways_row(tree, "abba", 0), [0, 1, 0, 0, 0])
        self.assertEqual(ways_row(tree, "abba", 1), [0, 0, 0, 0, 1])
        self.assertEqual(ways_row(tree, "abba", 4), [0, 0, 0, 0, 0])
        self.assertEqual(ways_row(read_pattern("a*"), "aa", 2), [0, 0, 1])
        self.assertEqual(ways_row(read_pattern("a*"), "aa", index=1), [0, 1, 1])

    def test_very_large_numbers(self):
        text = "a" * 300
        self.assertEqual(ways_row(read_pattern("(a|a)*"), text), [2 ** length for length in range(301)])
        self.assertEqual(whole_ways(read_pattern("(a|a|a)*"), text), 3 ** 300)
        self.assertEqual(whole_ways(read_pattern("a*" * 20), text), math.comb(319, 19))
        self.assertEqual(whole_ways(read_pattern("(a*)*"), text), 2 ** 299)
        before, number = 1, 1
        for _ in range(299):
            before, number = number, before + number
        self.assertEqual(whole_ways(read_pattern("(a|aa)*"), text), number)
        self.assertEqual(whole_ways(read_pattern("(a|a)*b"), text), 0)

    def test_whole_ways(self):
        for pattern in ("a*b?", "(ab|a|b)*", "{ahead:a}.*|.*", "(a|b)<2,3>"):
            tree = read_pattern(pattern)
            for text in texts_up_to("abc", 4):
                self.assertEqual(whole_ways(tree, text), ways_row(tree, text)[len(text)])
                self.assertEqual(whole_ways(tree, text) > 0, accepts(tree, text))

    def test_many_trees(self):
        for kinds in (("look", "edge"), (), ("edge",)):
            for tree, text, index in dense_cases(56, 800, kinds=kinds):
                self.check(tree, text, index)

    def test_the_ways_of_the_machine(self):
        for tree, text, index in dense_cases(57, 200, kinds=("look", "edge"), depths=(3, 4)):
            if row_of_reference(tree, text, index) is not None:
                ends = [end for end, _ in each_way(tree, text, index)]
                self.assertEqual(ways_row(tree, text, index), [ends.count(at) for at in range(len(text) + 1)])

    def test_not_regular(self):
        for tree in (same("x"), seq(group("x", A), same("x")), seq(group("x", A), look(B), repeat(same("x"), 0, 0))):
            for call in (ways_row, whole_ways):
                with self.assertRaises(NotRegular):
                    call(tree, "a")


if __name__ == "__main__":
    unittest.main()
