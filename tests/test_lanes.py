"""Lanes: points [14], [28], [29] and [38] to [40]."""

import unittest

from surespan.charts import chart_of
from surespan.errors import NotRegular
from surespan.lanes import lane_answer, lane_lists, lane_way
from surespan.meaning import first_answer, first_way
from surespan.reading import read_pattern
from surespan.trees import is_regular
from tests import reference
from tests.samples import A, B, dense_cases, group, repeat, same, seq, trees_of_each_form


def signs_of(tree, lanes):
    """Return the signs of the places in a tuple of lanes, as they are ordered there."""
    return [chart_of(tree)[0][place][0] for place in lanes]


class LaneListsTest(unittest.TestCase):
    def check(self, tree, text, index=0):
        found = lane_lists(tree, text, index)
        self.assertIs(type(found), list)
        self.assertTrue(all(type(lanes) is tuple for lanes in found))
        self.assertEqual(found, reference.begun_lists(chart_of(tree), text, index), (tree, text, index))
        self.assertEqual(found[0], (0,))
        self.assertTrue(found[-1])
        self.assertLessEqual(len(found), len(text) - index + 1)
        return found

    def test_the_first_tuple_and_the_last_one(self):
        for pattern in ("a", "[]", "()", "{end}", "{start}b", "a*"):
            for text in ("", "b", "c"):
                self.assertEqual(lane_lists(read_pattern(pattern), text)[0], (0,))
        self.assertEqual(lane_lists(read_pattern("a"), "b"), [(0,)])
        self.assertEqual(lane_lists(read_pattern("a"), ""), [(0,)])
        self.assertEqual(len(lane_lists(read_pattern("a"), "aaa")), 2)
        self.assertEqual(len(lane_lists(read_pattern("aa|b*"), "abb")), 2)
        self.assertEqual(len(lane_lists(read_pattern("a*"), "aaab")), 4)

    def test_the_order_of_the_places(self):
        tree = read_pattern("([ab]x|[ac]y|[ad]z)")
        self.assertEqual(signs_of(tree, self.check(tree, "aq")[1]), ["ab", "ac", "ad"])
        tree = read_pattern("[ac]*[ab]")
        self.assertEqual(signs_of(tree, self.check(tree, "aa")[2]), ["ac", "ab"])
        tree = read_pattern("[ac]*~[ab]")
        self.assertEqual(signs_of(tree, self.check(tree, "aa")[2]), ["ab", "ac"])
        # The walk that comes first leads to the set that is written last.
        tree = read_pattern("(a|ab)(b[cd]|[ce])")
        self.assertEqual(signs_of(tree, self.check(tree, "abc")[2]), ["b", "b"])
        self.assertEqual(signs_of(tree, self.check(tree, "abc")[3]), ["cd", "ce"])

    def test_each_place_stands_there_once(self):
        for pattern in ("(a*)*", "(a|a)*", "(a|b|ab)*", "(a?a?)*"):
            for lanes in self.check(read_pattern(pattern), "abaab"):
                self.assertEqual(len(set(lanes)), len(lanes))

    def test_lanes_that_no_walk_brings_to_an_end(self):
        tree = read_pattern("aab|a[]|a{end}a|b")
        self.assertEqual([len(lanes) for lanes in self.check(tree, "aaa")], [1, 3, 1])
        self.assertEqual(len(lane_lists(read_pattern("aa[]"), "aaa")), 3)
        self.assertEqual(len(lane_lists(read_pattern("aa{start}"), "aaa")), 3)

    def test_no_lane_is_left_out_because_a_walk_before_it_can_end(self):
        tree = read_pattern("a|[ab]|a*~")
        self.assertEqual(signs_of(tree, self.check(tree, "a")[1]), ["a", "ab", "a"])
        self.assertEqual(len(lane_lists(read_pattern("()|a*"), "aaa")), 4)

    def test_each_index(self):
        for pattern in ("a*b", "{behind:a}b", "{word edge}a+", "({start}a|b)*", "(.|{end})*"):
            tree = read_pattern(pattern)
            for text in ("", "a", "ab", "aab b"):
                for index in range(len(text) + 1):
                    self.check(tree, text, index)
                self.assertEqual(lane_lists(tree, text, len(text)), [(0,)])

    def test_tests_of_moves(self):
        tree = read_pattern("({ahead:.b}a|{not behind:b}a|b{line end})*")
        for text in ("ab\nab", "aab", "bab", "b\nb", "abba"):
            for index in range(len(text) + 1):
                self.check(tree, text, index)

    def test_not_regular(self):
        for tree in (same("x"), seq(group("x", A), same("x")), seq(group("x", A), B, repeat(same("x"), 0, 0))):
            for call in (lane_lists, lane_way, lane_answer):
                with self.assertRaises(NotRegular):
                    call(tree, "a")
            with self.assertRaises(NotRegular):
                lane_answer(tree, "a", 7)

    def test_against_the_document_word_for_word(self):
        for tree, text, index in dense_cases(40, 2500, kinds=("look", "edge"), depths=(3, 4, 4, 5)):
            self.check(tree, text, index)


class LaneWaysTest(unittest.TestCase):
    def check(self, tree, text, index):
        for whole in (False, True):
            expected = first_way(tree, text, index, whole=whole)
            self.assertEqual(lane_way(tree, text, index, whole=whole), expected, (tree, text, index, whole))
        self.assertEqual(lane_answer(tree, text, index), first_answer(tree, text, index), (tree, text, index))

    def test_example(self):
        self.assertEqual(lane_answer(read_pattern("{behind:a}b"), "bab"), (2, 3, ()))

    def test_ways(self):
        self.assertEqual(lane_way(read_pattern("{as x:a|ab}{as y:b?}"), "ab"), (2, (("x", 0, 1), ("y", 1, 2))))
        self.assertEqual(lane_way(read_pattern("a|ab"), "ab"), (1, ()))
        self.assertEqual(lane_way(read_pattern("a|ab"), "ab", whole=True), (2, ()))
        self.assertEqual(lane_way(read_pattern("a*~"), "aa"), (0, ()))
        self.assertEqual(lane_way(read_pattern("a*~"), "aa", whole=True), (2, ()))
        self.assertIsNone(lane_way(read_pattern("a*~"), "aab", whole=True))
        self.assertIsNone(lane_way(read_pattern("b"), "ab"))
        self.assertEqual(lane_way(read_pattern("b"), "ab", 1), (2, ()))
        self.assertEqual(lane_way(read_pattern("{as x:a}|b"), "ab", 1, whole=True), (2, ()))

    def test_rows(self):
        for pattern in (
            "({as x:a}|{as y:b})*", "({as x:a*}b)*", "{as x:{as x:a}b}|{as y:a}", "({as x:a?}{as y:b?})<2,>",
            "({as x:}a|{as y:}b)*~{end}", "({as x:a}|b)+~b",
        ):
            tree = read_pattern(pattern)
            for text in ("", "a", "ab", "abab", "bbaab", "aabb"):
                for index in range(len(text) + 1):
                    self.check(tree, text, index)

    def test_answers_from_start_indexes(self):
        tree = read_pattern("{as x:b}|{end}")
        found = [lane_answer(tree, "abab", start) for start in range(7)]
        first, second = (1, 2, (("x", 1, 2),)), (3, 4, (("x", 3, 4),))
        self.assertEqual(found, [first, first, second, second, (4, 4, ()), None, None])
        self.assertIsNone(lane_answer(read_pattern("a*"), "", 1))
        self.assertIsNone(lane_answer(read_pattern("a*"), "aaa", 400))
        self.assertEqual(lane_answer(read_pattern("{behind:a}b"), "ab", 1), (1, 2, ()))
        self.assertIsNone(lane_answer(read_pattern("{start}b"), "ab", 1))

    def test_an_earlier_start_comes_first(self):
        self.assertEqual(lane_answer(read_pattern("abc|b"), "abd"), (1, 2, ()))
        self.assertEqual(lane_answer(read_pattern("ab*c|b"), "abbc"), (0, 4, ()))
        self.assertEqual(lane_answer(read_pattern("b|ab*c"), "abbc"), (0, 4, ()))
        self.assertEqual(lane_answer(read_pattern("a*~b?"), "aab"), (0, 0, ()))

    def test_trees_of_each_form(self):
        for tree in trees_of_each_form():
            if is_regular(tree):
                for text in ("", "a", "ab", "\n", "ba", "aaaaaaaaaa"):
                    for index in range(len(text) + 1):
                        self.check(tree, text, index)

    def test_many_trees(self):
        for tree, text, index in dense_cases(28, 3000, kinds=("look", "edge")):
            self.check(tree, text, index)

    def test_plain_trees(self):
        for tree, text, index in dense_cases(29, 1000, kinds=()):
            self.check(tree, text, index)


if __name__ == "__main__":
    unittest.main()
