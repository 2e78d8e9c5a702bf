"""Twin places, and lanes that are left out because of them: what points [41] to [44] need."""

import unittest

from surespan.charts import chart_of
from surespan.flows import Flow
from surespan.grounds import END, Ground
from surespan.lanes import lane_answer
from surespan.reading import read_pattern
from surespan.residuals import residual_answer
from surespan.tables import Table
from surespan.twins import twins_of
from tests import reference
from tests.samples import Dense


def twins(pattern):
    return twins_of(Ground([chart_of(read_pattern(pattern))]))


def lanes_after(pattern, text, mode="search"):
    flow = Flow(read_pattern(pattern), mode)
    state = flow.first_state
    for sign in text:
        state, _ = flow.after(state, flow.cell_numbers[sign])
    return state[2]


class TwinsTest(unittest.TestCase):
    def test_places_with_the_same_moves(self):
        # Place 1 is the entry of the chart; the places behind it read the signs of the tree.
        self.assertEqual(twins("(a|b)c"), [END, 1, 2, 2, 4])
        self.assertEqual(twins("(a|b)*"), [END, 1, 1, 1])
        self.assertEqual(twins("ab|ab"), [END, 1, 2, 3, 2, 3])
        self.assertEqual(twins("ab|ac"), [END, 1, 2, 3, 4, 3])
        self.assertEqual(twins("({ahead:b}a|[ab])*")[:4], [END, 1, 1, 1])

    def test_marks_and_tests_make_a_difference(self):
        self.assertEqual(twins("a{as x:b}|a{as y:b}")[1:6], [1, 2, 3, 4, 5])
        self.assertEqual(twins("a{end}|b{start}")[1:], [1, 2, 3])
        self.assertEqual(twins("a{end}|b{end}")[1:], [1, 2, 2])

    def test_a_place_that_leads_nowhere_is_no_twin_of_the_end(self):
        self.assertNotIn(END, twins("a[]|b")[1:])

    def test_walks_from_twins(self):
        growing = Dense(410, kinds=("edge",))
        for _ in range(150):
            tree = growing.tree(4)
            chart = chart_of(tree)
            for place, twin in enumerate(twins_of(Ground([chart]))[1:]):
                if twin - 1 != place:
                    slots = tuple((slot, 0) for slot in range(12))
                    for text in ("", "a", "ab", "baa"):
                        one = list(reference.walks(chart, text, 0, place, (), slots))
                        self.assertEqual(one, list(reference.walks(chart, text, 0, twin - 1, (), slots)))


class LanesTest(unittest.TestCase):
    def test_lanes_that_make_no_difference(self):
        for pattern, most in (
            ("({ahead:.<9>.<9>b}a|[ab])*", 3), ("({ahead:.<8>b}a|{ahead:.<8>c}a|a)*", 3), ("a({ahead:.b}|{ahead:.c}|)", 3), ("(a|a|a)*", 3),
        ):
            self.assertLessEqual(len(lanes_after(pattern, "a" * 30)), most, pattern)

    def test_lanes_with_different_captured_spans_stay(self):
        self.assertEqual(len(lanes_after("({ahead:.b}{as x:a}|a)", "a", "here")), 2)
        self.assertEqual(len(lanes_after("({ahead:.b}a|{as x:a})", "a", "here")), 2)
        self.assertEqual(len(lanes_after("({ahead:.b}a|a)", "a", "here")), 1)

    def test_another_lane_between(self):
        # The lanes with and without a condition stand at one place, but one that goes on otherwise is between them.
        for pattern in ("{ahead:ab}a.?|ac?|a.?", "({ahead:ab}a.|a[bc]|a.)", "({ahead:ab}a|ac|a).?", "({ahead:.b}a.?~|a.|a.?~)c?"):
            tree = read_pattern(pattern)
            for text in ("a", "ab", "ac", "aa", "abc", "acc", "aab", "aac"):
                expected = reference.answer(tree, text)
                self.assertEqual(Table(tree).answer(text), expected, (pattern, text))
                self.assertEqual(residual_answer(tree, text), expected)
                self.assertEqual(lane_answer(tree, text), expected)


if __name__ == "__main__":
    unittest.main()
