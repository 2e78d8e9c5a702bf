"""Long texts and trees at the bounds are answered in seconds: point [98]."""

import itertools
import random
import time
import unittest

from surespan.charts import chart_of
from surespan.derivations import derivations, derive
from surespan.meaning import accepts, first_answer, first_way, outcomes
from surespan.measures import depth, size, weight
from surespan.reading import read_pattern
from surespan.replaying import earlier, replay
from surespan.steps import compile_steps
from surespan.walking import each_way, walk_answer, walk_cost, walk_way
from surespan.writing import write_pattern

SECONDS = 20
LONG = "a" * 300

# Plain backtracking would need very many steps for most of these on a text of 300 signs.
PATTERNS = [
    "(a|a)*b", "(a*)*b", "((a*)*)*b", "(a|aa)*b", "(a?)<9>(a?)<9>(a?)<9>(a?)<9>(a?)<9>b", ".*" * 28 + "b",
    "(" + ".*" * 27 + "b)*c", "(((((((((a?)*)*)*)*)*)*)*)*)*b", "((((((a?)<9>)<1,5>)*)*)*)*b", "(a<9>|a<8>|a<7>|a<6>)*b",
    "(((a*b|a)*b|a)*b|a)*c", "(a|b|c|d|e|f|g|h|i|j|k|l|m|n|o|p|q|r|s|t|u|v|w|x|y|z|a)*!", "({line start}|{word edge}|a?)*b",
    "(a*~)*~b", "((a|)*~(|a)*)<2,>b",
]
LOOKING = [
    "({ahead:.*.*.*b}a|a)*c", "({not ahead:(a|a)*b}a)*b", "({behind:.*.*.*}a)*b", "({not behind:b(a|a)*}a)*b",
    "({ahead:(a*)*b}|{behind:(a*)*b}|{not ahead:(a*)*c}a|{not behind:(a|a)*c}a)*c", "(a{behind:(a|aa)*{start}a*})*b",
]
CAPTURING = [
    "({as x:a}|{as y:a})*b", "({as x:a*}{as y:a*})*b", "{as x:a*}{as y:a*}{as z:a*}{as w:a*}b", "({as x:a|{as y:aa}})*b",
]
REPEATING = [
    "{as x:a+}{same x}b", "({as x:a}{same x}|a)*b", "{as x:a+}({same x}|b)*c", "{as x:a}({same x}|{same x})*b",
    "({as x:a|aa}{as y:a})*b", "({as x:a?}{same x}*)*b", "{as x:a*}{as y:a*}{same x}{same y}b",
    "{as x:a*}({as y:a*}{same x}|{as z:a*}{same y}|{same z})*b", "{as x:.+}.*{same x}!",
]
# Trees with 60 nodes, with a depth of 12 and with a weight of 60.
BOUNDS = [
    "a" * 59, "a?" * 29, "(" * 5 + "a" + "|)<1,2>" * 5, "(a?b?c?d?)<9>(e|f)<9>x*", "(a|b?)<9>" * 3 + "(c|)<6>",
    "{as a:{as b:{as c:{as d:{as e:{as f:{as g:{as h:{as i:{as j:a*}}}}}}}}}}", "|".join("abcdefghijklmnopqrstuvwxyz" * 2),
    "({start}?{end}?{line start}?{line end}?{word edge}?{no word edge}?[ab]?)*",
]


class SpeedTest(unittest.TestCase):
    def setUp(self):
        begun = time.monotonic()
        self.addCleanup(lambda: self.assertLess(time.monotonic() - begun, SECONDS))

    def test_ways_and_answers(self):
        for pattern in PATTERNS + LOOKING + CAPTURING:
            tree = read_pattern(pattern)
            self.assertIsNone(first_answer(tree, LONG), pattern)
            self.assertIsNone(first_way(tree, LONG), pattern)
            self.assertIs(accepts(tree, LONG), False)

    def test_whole_ways_of_long_texts(self):
        for pattern in PATTERNS + LOOKING:
            tree = read_pattern("(" + pattern + ")|(" + pattern + "){end}|.*")
            self.assertEqual(first_way(tree, LONG, whole=True), (300, ()), pattern)
        self.assertEqual(first_way(read_pattern("(a|aa)*~b*"), LONG, whole=True), (300, ()))
        self.assertEqual(first_answer(read_pattern("b{as x:.*}a"), "b" + LONG), (0, 301, (("x", 1, 300),)))

    def test_outcomes(self):
        for pattern in PATTERNS + LOOKING + CAPTURING:
            self.assertEqual(outcomes(read_pattern(pattern), LONG), [], pattern)
        for pattern in ("(a|a)*", "(a*)*", "(a?)*a*a*a*", "({ahead:a}a|a)*", "((a|)*~a*)*"):
            self.assertEqual(len(outcomes(read_pattern(pattern), LONG)), 301, pattern)
        self.assertEqual(len(outcomes(read_pattern("{as x:a*}a*"), "a" * 100)), 101 * 102 // 2)

    def test_repeated_texts(self):
        for pattern in REPEATING:
            tree = read_pattern(pattern)
            self.assertIsNone(first_answer(tree, LONG), pattern)
            self.assertIsNone(derive(tree, LONG), pattern)
            self.assertEqual(outcomes(tree, LONG), [])
        self.assertEqual(first_way(read_pattern("{as x:a+}{same x}"), LONG, whole=True), (300, (("x", 0, 150),)))
        # These fail only because the captured text does not stand there once more.
        for pattern in ("{as x:ba}(a|a)*{same x}", "{as x:b{as y:a*}}(a|{same y})*{same x}", "{as x:.*b}(a*)*{same x}"):
            self.assertIsNone(first_answer(read_pattern(pattern), "b" + LONG[:298]), pattern)

    def test_derivations(self):
        for pattern in PATTERNS + LOOKING + CAPTURING:
            tree = read_pattern(pattern)
            self.assertIsNone(derive(tree, LONG), pattern)
            self.assertEqual(list(derivations(tree, LONG)), [])
            tree = read_pattern("(" + pattern + ")|.*")
            found = derive(tree, LONG, whole=True)
            self.assertEqual(found, ("alt", 1, ("repeat", (("set",),) * 300)), pattern)
            self.assertEqual(replay(tree, LONG, 0, found), (300, ()))
        tree = read_pattern("(a|a)*")
        first, second = itertools.islice(derivations(tree, LONG), 2)
        self.assertTrue(earlier(tree, first, second))

    def test_walks(self):
        for pattern in ("(a*)*", "(a|a)*", "a*a*b", "({behind:a}|{start}|a)*"):
            tree = read_pattern(pattern)
            self.assertEqual(walk_way(tree, LONG), first_way(tree, LONG))
            self.assertGreater(walk_cost(tree, LONG), 300)
        self.assertEqual(len(list(itertools.islice(each_way(read_pattern("(a|a)*"), LONG), 1000))), 1000)
        self.assertIsNone(walk_answer(read_pattern("a*b"), LONG))
        tree = read_pattern("({not behind:b.*}a)*")
        self.assertEqual(walk_way(tree, LONG), (300, ()))

    def test_trees_at_the_bounds(self):
        chance = random.Random(98)
        text = "".join(chance.choice("aabc\n ") for _ in range(300))
        for pattern in BOUNDS:
            tree = read_pattern(pattern)
            self.assertTrue(size(tree) <= 61 and depth(tree) <= 12 and weight(tree) <= 60, pattern)
            self.assertEqual(read_pattern(write_pattern(tree)), tree)
            self.assertEqual(walk_answer(tree, text, budget=10 ** 30), first_answer(tree, text))
            self.assertLessEqual(len(chart_of(tree)[0]), 61)
            self.assertTrue(compile_steps(tree))
            way = first_way(tree, text)
            if way is not None:
                self.assertEqual(replay(tree, text, 0, derive(tree, text)), way)

    def test_charts(self):
        for pattern in PATTERNS + LOOKING + CAPTURING:
            tree = read_pattern(pattern)
            self.assertLessEqual(len(chart_of(tree)[0]), 1 + weight(tree))


if __name__ == "__main__":
    unittest.main()
