"""Charts: points [14] and [37] to [39]."""

import unittest

from surespan.charts import chart_of
from surespan.errors import NotRegular
from surespan.measures import weight
from surespan.reading import read_pattern
from surespan.trees import is_regular
from tests import reference
from tests.samples import (
    A, B, EDGE_KINDS, EMPTY, NOTHING, alt, dense_cases, edge, group, look, repeat, same, seq, trees_of_each_form,
)


def look_nodes(tree):
    if tree[0] == "look":
        return [tree]
    below = tree[1] if tree[0] in ("seq", "alt") else [part for part in tree[1:] if isinstance(part, tuple)]
    return [node for child in below if isinstance(child, tuple) for node in look_nodes(child)]


class ChartTest(unittest.TestCase):
    def check_form(self, chart, looks):
        """Check the form of a chart that may have tests of this number of looks."""
        places, _ = chart
        self.assertEqual(places[0][0], "")
        for signs, moves in places:
            self.assertEqual(signs, "".join(sorted(set(signs))))
            self.assertIs(type(moves), tuple)
            for tests, marks, target in moves:
                self.assertIs(type(tests), tuple)
                self.assertEqual(len(set(tests)), len(tests))
                for test in tests:
                    if test[0] == "edge":
                        self.assertTrue(len(test) == 2 and test[1] in EDGE_KINDS)
                    else:
                        kind, number, wanted = test
                        self.assertTrue(kind == "look" and number in range(looks) and wanted in (True, False))
                self.assertIs(type(marks), tuple)
                for mark in marks:
                    self.assertIn((mark[0], len(mark)), [("store", 2), ("close", 3)])
                    self.assertTrue(type(mark[1]) is int and mark[1] >= 0)
                self.assertTrue(target == -1 or 0 < target < len(places))

    def check_moves(self, chart):
        """Check that no move is idle."""
        for signs, moves in chart[0]:
            for at, (tests, marks, target) in enumerate(moves):
                for earlier_tests, _, earlier_target in moves[:at]:
                    self.assertFalse(earlier_target == target and set(earlier_tests) <= set(tests), chart)

    def check(self, tree):
        """Check all that the document says of a chart but for its walks; return the chart."""
        chart = chart_of(tree)
        places, looks = chart
        self.assertIs(type(places), tuple)
        self.assertIs(type(looks), tuple)
        self.assertLessEqual(len(places), 1 + weight(tree))
        self.check_form(chart, len(looks))
        self.check_moves(chart)
        for at, (side, below) in enumerate(looks):
            self.assertNotIn((side, below), looks[:at])
            self.assertEqual(below[1], ())
            self.assertTrue(all(marks == () for signs, moves in below[0] for tests, marks, target in moves))
            self.check_form(below, 0)
            self.check_moves(below)
            bodies = [node[3] for node in look_nodes(tree) if node[1] == side]
            self.assertTrue(any(len(below[0]) <= 1 + weight(body) for body in bodies))
        return chart

    def agree(self, tree, text, index=0):
        """Check that walks and ways from the index agree."""
        expected = reference.first_of_each_end(way[:2] for way in reference.ways(tree, text, index, ()))
        found = reference.first_of_each_end(reference.walks(chart_of(tree), text, index))
        self.assertEqual(found, expected, (tree, text, index))

    def test_not_regular(self):
        for tree in (same("x"), seq(group("x", A), same("x")), seq(group("x", A), look(B), repeat(same("x"), 0, 0))):
            with self.assertRaises(NotRegular):
                chart_of(tree)

    def test_trees_of_each_form(self):
        for tree in trees_of_each_form():
            if is_regular(tree):
                self.check(tree)
                for text in ("", "a", "ab", "\n", "ba", "aaaaaaaaaa"):
                    for index in range(len(text) + 1):
                        self.agree(tree, text, index)

    def test_simple_charts(self):
        self.assertEqual(chart_of(EMPTY), ((("", (((), (), -1),)),), ()))
        self.assertEqual(chart_of(A), ((("", (((), (), 1),)), ("a", (((), (), -1),))), ()))
        self.assertEqual(chart_of(repeat(A, 0, None)), (
            (("", (((), (), 1), ((), (), -1))), ("a", (((), (), 1), ((), (), -1)))), (),
        ))
        self.assertEqual(len(chart_of(repeat(A, 0, 0))[0]), 1)
        self.assertLessEqual(len(chart_of(NOTHING)[0]), 2)

    def test_the_number_of_places(self):
        for pattern in (
            "a*", "a+", "a<3,>", "a<2,5>", "(ab)<0,4>", "a<0>", "(a|b|c)*", "{as x:a<2>}b", "{ahead:abc}", "{ahead:abc}a",
            "((ab)<3>c)<2>", "(a<2,>)<2,>", "{behind:a+}|{behind:aa}",
        ):
            self.check(read_pattern(pattern))

    def test_no_move_is_idle(self):
        for pattern in (
            "(a|a|a)*", "(a*)*", "((a?)*)+", "a?a?a?", "(|)(|)", "({start}|)({start}|)a", "({start}|{end}|)*a",
            "({start}{end}|{end}{start}|{start})", "{start}{start}{start}", "({end}?{start}?)<3>", "({ahead:a}|)(b|)",
        ):
            tree = read_pattern(pattern)
            self.check(tree)
            for text in ("", "a", "aa", "ba"):
                self.agree(tree, text)

    def test_a_move_with_fewer_tests_than_an_earlier_one_stays(self):
        for pattern in ("({start}a|a)", "({start}{end}|{start}|)", "({start}|{end}|)a?", "(a|{end})*{start}?"):
            tree = read_pattern(pattern)
            self.check(tree)
            for text in ("", "a", "aa"):
                for index in range(len(text) + 1):
                    self.agree(tree, text, index)

    def test_looks_without_duplicates(self):
        chart = self.check(read_pattern("{ahead:a}({ahead:a}|{not ahead:a}|{behind:a})"))
        self.assertEqual(sorted(side for side, below in chart[1]), ["ahead", "behind"])
        # Two bodies that are not equal may have one chart.
        chart = self.check(read_pattern("{ahead:a}{ahead:a|a}{ahead:()a}b"))
        bodies = [below for side, below in chart[1]]
        self.assertTrue(all(bodies.count(below) == 1 for below in bodies))
        self.assertEqual(chart_of(A)[1], ())
        self.check(read_pattern("({ahead:a}a)<9>"))

    def test_looks(self):
        for pattern in (
            "{ahead:a}", "{not ahead:a}", "{behind:a}", "{not behind:a}", "({ahead:ab}.)*", "(.{behind:ba?})*",
            "({not ahead:b{end}}.)*", "({not behind:{start}a}.)*", "{ahead:}{behind:}{not ahead:[]}", "{not behind:}",
        ):
            tree = read_pattern(pattern)
            self.check(tree)
            for text in ("", "a", "ab", "aab", "baba"):
                for index in range(len(text) + 1):
                    self.agree(tree, text, index)

    def test_rows(self):
        for pattern in (
            "{as x:a*}{as y:a*}", "({as x:a}|{as y:a})*", "{as x:a{as x:a?}}*", "({as x:}|a)+", "({as x:}|a)*",
            "{as x:{as y:a|}b?}<0,2>", "({as x:a?~}{as y:a?})*~", "{as x:({start}|{as y:a})*}", "({as x:a}b|a{as y:b})?a*",
            "({as x:a*~})*", "({as x:(a*~)*~})+", "{as x:{end}}?{as y:a}?{as x:}",
        ):
            tree = read_pattern(pattern)
            self.check(tree)
            for text in ("", "a", "aa", "aab", "abab", "baa"):
                for index in range(len(text) + 1):
                    self.agree(tree, text, index)

    def test_nested_repeats_that_can_be_empty(self):
        for outer in ("*", "*~", "+", "+~", "<2,>", "<2,3>", "?~"):
            for inner in ("*", "*~", "+~", "<2>", "?", "?~"):
                for body in ("a", "(a|)", "(|a)", "{as x:a?~}", "{start}"):
                    tree = read_pattern("(" + "(" + body + ")" + inner + ")" + outer)
                    self.check(tree)
                    for text in ("", "aa", "aaa"):
                        self.agree(tree, text)

    def test_against_the_document_word_for_word(self):
        for tree, text, index in dense_cases(37, 2500, kinds=("look", "edge")):
            self.check(tree)
            if reference.few_ways(tree, text, index) is not None:
                self.agree(tree, text, index)

    def test_plain_trees_against_the_document_word_for_word(self):
        for tree, text, index in dense_cases(38, 1500, kinds=()):
            self.check(tree)
            if reference.few_ways(tree, text, index) is not None:
                self.agree(tree, text, index)


if __name__ == "__main__":
    unittest.main()
