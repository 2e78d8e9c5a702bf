"""Lanes, tables, residuals and partings at the bounds are answered in seconds: point [98]."""

import random
import time
import unittest

from surespan.errors import TooManyStates
from surespan.lanes import lane_answer, lane_lists, lane_way
from surespan.looktables import look_table
from surespan.meaning import first_answer, outcomes
from surespan.measures import depth, size, weight
from surespan.mirroring import mirror, strip_groups
from surespan.partings import parting, parting_from
from surespan.reading import read_pattern
from surespan.residuals import residual_answer
from surespan.tables import Table
from surespan.treeafter import tree_after
from tests.test_speed import BOUNDS, CAPTURING, LONG, LOOKING, PATTERNS, SECONDS

# Looks ahead stay open for long, and several branches go on with the same signs.
OPEN = [
    "({ahead:.<9>.<9>b}a|[ab])*", "({ahead:.<8>b}a|{ahead:.<8>c}a|a)*", "({not ahead:.<9>b}a|{ahead:.<8>b}a|.)*c",
    "({ahead:.<9>b}a{behind:b.<9>}|[ab])*", "({ahead:.<6>b}{as x:a}|[ab])*",
]
MODES = ("search", "here", "whole")
LEVELS = ("whole", "span", "answer")
# Trees with a weight of at most 24, with many signs, looks, edges and groups; most have a weight of 9 or more.
HEAVY = [
    "(a|b)*a(a|b)<9>", "(.*a.<9>)*b", "(a?b?c?d?e?f?g?h?i?j?k?l?m?n?o?p?q?r?s?t?u?v?w?x?)*",
    "({as x:a?b?c?d?e?f?}{as y:g?h?i?j?k?l?}m?n?o?p?q?r?s?t?u?v?)*", "((a<2>)*|(a<3>)*|(a<5>)*|(a<7>)*)b",
    "[a-z]*[b-y]*[c-x]*[d-w]*[e-v]*[f-u]*[g-t]*[h-s]*[i-r]*[j-q]*[k-p]*[l-o]*[mn]*", "(.a.|.b.|..c)*(.a|b.)*",
    "((.*a)<3>|(.*b)<3>)<2>", "(.*a)<1,9>.*b", "{as x:a*}{as y:a*}{as z:a*}{as w:a*}b|({as x:[ab]}|{as y:b}c)*d",
    "{line start}({as x:[a-c]+}{blank}*={blank}*{as y:{digit}+|\"[^\"]*\"})?{blank}*(#.*)?{line end}",
    "({word edge}{as x:{word}+}{word edge}|{blank}+|{line start}#.*{line end})*",
]
FOUR_LOOKS = [
    "({ahead:(a*)*b}|{behind:(a*)*b}|{not ahead:(a*)*c}a|{not behind:(a|a)*c}a)*c",
    "({ahead:.<4>a}b|{ahead:.<4>b}a|{not ahead:.<4>c}c|{behind:a.<4>}d)*",
    "({ahead:.*a.*b}{ahead:.*b.*c}{ahead:.*c.*d}{ahead:.*d.*a}.)*",
    "({not ahead:.*a.*b}x|{not ahead:.*b.*c}y|{not ahead:.*c.*d}z|{not ahead:.*d.*a}w|.)*",
    "(({ahead:.*a}|{ahead:.*b}|{ahead:.*c}|{ahead:.*d})[abcd]|{as x:[abcd]})*",
    "({behind:.*a.*b}a|{behind:a<3>{word edge}}b|{not behind:b{line end}}\\n|{not behind:c.<3>}{as x:c})*",
]


def parts_of(tree):
    """Return trees that differ from the given one only in how they are written."""
    return [("seq", (("empty",), tree)), ("alt", (tree, tree))]


class SpeedTest(unittest.TestCase):
    def setUp(self):
        begun = time.monotonic()
        self.addCleanup(lambda: self.assertLess(time.monotonic() - begun, SECONDS))
        chance = random.Random(98)
        self.texts = [LONG] + ["".join(chance.choice(signs) for _ in range(300)) for signs in ("ab", "aaaab", "abcd\n x")]

    def test_the_trees_keep_the_bounds(self):
        for pattern in HEAVY + FOUR_LOOKS:
            tree = read_pattern(pattern)
            self.assertTrue(size(tree) <= 60 and depth(tree) <= 12 and 5 <= weight(tree) <= 24, pattern)
        self.assertTrue(all(pattern.count("{ahead") + pattern.count("{not") + pattern.count("{behind") == 4
                            for pattern in FOUR_LOOKS))

    def test_lanes(self):
        for pattern in PATTERNS + LOOKING + CAPTURING + BOUNDS + HEAVY + FOUR_LOOKS:
            tree = read_pattern(pattern)
            for text in self.texts:
                self.assertLessEqual(len(lane_lists(tree, text)), 301)
                lane_way(tree, text, whole=True)
                self.assertEqual(lane_answer(tree, text), first_answer(tree, text), pattern)

    def test_look_tables(self):
        for pattern in PATTERNS + BOUNDS:
            tree = strip_groups(read_pattern(pattern))
            for text in self.texts:
                self.assertEqual(len(look_table("ahead", tree, text) + look_table("behind", tree, text)), 602)

    def test_tables_and_residuals(self):
        for pattern in [*HEAVY, *FOUR_LOOKS, *LOOKING, *CAPTURING, *OPEN]:
            tree = read_pattern(pattern)
            for text in self.texts:
                for mode in MODES:
                    found = Table(tree, mode=mode).answer(text)
                    if mode == "search":
                        self.assertEqual(found, lane_answer(tree, text))
                    else:
                        way = lane_way(tree, text, whole=mode == "whole")
                        self.assertEqual(found, None if way is None else (0,) + way)
                    if text != LONG:
                        self.assertEqual(residual_answer(tree, text, mode=mode), found)

    def test_complete(self):
        for pattern in HEAVY + FOUR_LOOKS + LOOKING + CAPTURING:
            for mode in MODES:
                table = Table(read_pattern(pattern), mode=mode)
                try:
                    self.assertEqual(table.complete(500), table.states)
                except TooManyStates as error:
                    self.assertEqual(error.limit, 500)

    def test_trees_that_never_differ(self):
        for pattern in HEAVY + FOUR_LOOKS + LOOKING + CAPTURING:
            tree = read_pattern(pattern)
            for other in parts_of(tree):
                for level in LEVELS:
                    self.assertIsNone(parting(tree, other, level=level), pattern)
            self.assertIsNone(parting_from(tree, parts_of(tree)[0]))
        # Looks behind that look back far, in trees that are written alike but for what reads nothing.
        tree = read_pattern("({behind:b.<9>.<9>}{as x:a}|a|b)*")
        for level in LEVELS:
            self.assertIsNone(parting(tree, parts_of(tree)[0], level=level))
        self.assertIsNone(parting_from(parts_of(tree)[0], tree))

    def test_trees_that_differ(self):
        trees = [read_pattern(pattern) for pattern in HEAVY + FOUR_LOOKS]
        for tree, other in zip(trees, trees[1:] + trees[:1]):
            for level in LEVELS:
                self.assertIsNotNone(parting(tree, other, level=level))
            self.assertIsNotNone(parting_from(tree, other))
        # The least text is a long one.
        self.assertEqual(parting(read_pattern("(a<8>)*b"), read_pattern("(a<8>)*(a<9>)?b"), level="whole"), "a" * 9 + "b")
        tree, other = read_pattern("((a<3>)*|(a<5>)*|(a<7>)*|(a<8>)*)b"), read_pattern("a*b")
        self.assertEqual(parting(tree, other, level="whole"), "ab")
        found = parting(read_pattern("(a<9>)*(b|(a<8>)*c)"), read_pattern("(a<9>)*((a<8>)*c|b|a<9>b)"), level="whole")
        self.assertIsNone(found)

    def test_trees_after_signs(self):
        for pattern in PATTERNS + BOUNDS + ["(a|b)*a(a|b)<9>", "(a?)<9>(b?)<9>(c?)<6>", "((a|ab)(c|bcd))*(d*)*"]:
            tree = read_pattern(pattern)
            if "{" not in pattern:
                left = tree_after(tree, "a")
                self.assertEqual(bool(outcomes(left, "")), any(end == 1 for end, _ in outcomes(tree, "a")))

    def test_mirrored_trees(self):
        for pattern in PATTERNS + BOUNDS + HEAVY + FOUR_LOOKS:
            tree = read_pattern(pattern)
            self.assertEqual(mirror(mirror(tree)), tree)
            self.assertLessEqual(size(strip_groups(tree)), size(tree))


if __name__ == "__main__":
    unittest.main()
