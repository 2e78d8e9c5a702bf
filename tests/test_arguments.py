"""Arguments stay as they were, and returned lists are new: point [2]."""

import unittest

from surespan.alphabet import SIGNS, texts_up_to
from surespan.cells import cell_of, cells, least_signs
from surespan.signsets import SignSet
from surespan.trees import group_names, node_at, paths, with_node
from tests.samples import A, B, group, seq

TREE = seq(group("y", A), group("x", B), group("y", B))


class ReturnedListsTest(unittest.TestCase):
    def check_new(self, make):
        first, second = make(), make()
        self.assertIsInstance(first, list)
        self.assertIsNot(first, second)
        expected = list(second)
        first.reverse()
        first.append("changed")
        self.assertEqual(second, expected)
        self.assertEqual(make(), expected)

    def test_returned_lists_are_new(self):
        signs = SignSet("abx")
        self.check_new(lambda: signs.ranges)
        self.check_new(lambda: cells(["ab", "bc"]))
        self.check_new(lambda: cells([]))
        self.check_new(lambda: paths(TREE))
        self.check_new(lambda: group_names(TREE))

    def test_a_division_is_not_the_argument(self):
        sets = [SIGNS]
        division = cells(sets)
        self.assertEqual(division, sets)
        self.assertIsNot(division, sets)
        every = list(SIGNS)
        self.assertIsNot(cells(every), every)


class ArgumentsTest(unittest.TestCase):
    def test_lists_stay_as_they_were(self):
        sets = ["bc", "ab", "bc", ""]
        division = cells(sets)
        self.assertEqual(sets, ["bc", "ab", "bc", ""])
        kept = list(division)
        cell_of(division, "b")
        least_signs(division)
        self.assertEqual(division, kept)

    def test_lists_that_are_tuples(self):
        self.assertEqual(cells(("ab", "bc")), cells(["ab", "bc"]))
        self.assertEqual(least_signs(tuple(cells(["ab"]))), "\ta")
        self.assertEqual(cell_of(tuple(cells(["ab"])), "b"), 1)

    def test_sets_of_signs_stay_as_they_were(self):
        a, b = SignSet("abc"), SignSet("cd")
        self.assertEqual(len([a | b, a & b, a - b, ~a, a == b, a.within(b), list(a), "a" in a, a.ranges]), 9)
        self.assertEqual([a.members, b.members], ["abc", "cd"])

    def test_trees_stay_as_they_were(self):
        before = repr(TREE)
        with_node(TREE, (0, 0), B)
        with_node(TREE, (), B)
        node_at(TREE, (1,))
        self.assertEqual(repr(TREE), before)

    def test_generators_do_not_share_their_state(self):
        first, second = texts_up_to("ab", 2), texts_up_to("ab", 2)
        self.assertEqual([next(first), next(first), next(second), next(first), next(second)], ["", "a", "", "b", "a"])


if __name__ == "__main__":
    unittest.main()
