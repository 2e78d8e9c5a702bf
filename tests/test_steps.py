"""Compiled steps: points [31] to [33]."""

import unittest

from surespan.reading import read_pattern
from surespan.steps import compile_steps
from tests import reference
from tests.samples import A, B, EMPTY, NOTHING, alt, dense_cases, edge, group, look, repeat, same, seq, trees_of_each_form

# For each kind of step a function that tells whether its other items are of the right kinds.
FIELDS = {
    "sign": lambda signs: isinstance(signs, str),
    "fork": lambda first, second: is_number(first) and is_number(second),
    "jump": lambda target: is_number(target),
    "store": lambda slot: is_number(slot),
    "moved": lambda slot: is_number(slot),
    "close": lambda slot, name: is_number(slot) and isinstance(name, str),
    "edge": lambda kind: isinstance(kind, str),
    "look": lambda side, wanted, steps: side in ("ahead", "behind") and wanted in (True, False) and are_steps(steps),
    "same": lambda name: isinstance(name, str),
    "accept": lambda: True,
}


def is_number(value):
    return type(value) is int and value >= 0


def are_steps(steps):
    if type(steps) is not tuple or not steps:
        return False
    targets = [target for step in steps if step[0] in ("fork", "jump") for target in step[1:]]
    return all(FIELDS[step[0]](*step[1:]) for step in steps) and all(target < len(steps) for target in targets)


def successes(tree, text, index=0):
    """Return the successes of a continued run and the number of its steps."""
    counted = reference.Counted()
    return list(reference.run(compile_steps(tree), text, index, None, counted)), counted.steps


def wrapped(tree, around, times):
    for _ in range(times):
        tree = around(tree)
    return tree


class StepsTest(unittest.TestCase):
    def test_forms_of_steps(self):
        for tree in trees_of_each_form():
            self.assertTrue(are_steps(compile_steps(tree)), tree)
        for tree, _, _ in dense_cases(31, 300):
            self.assertTrue(are_steps(compile_steps(tree)), tree)

    def test_successes_are_the_ways_in_their_order(self):
        for pattern, text in (
            ("a|ab|a?", "ab"), ("(a|a)b?", "ab"), ("(a?~)*", "aa"), ("(a*)+", "aa"), ("((a?)<2>)*~", "aa"),
            ("({as x:}|a)<1,3>", "aa"), ("{as x:a{as x:b}?}*", "aba"), ("({as x:a?}{same x})*", "aaa"),
            ("({ahead:a}.|{not behind:a}b)*", "aab"), ("{start}?~a{word edge}?", "a"), ("{as x:}{same x}*", ""),
            ("(|a)<2,>", "aa"), ("(|a)<2,>~", "aa"), ("(a|)<0>b", "b"), ("[]*", "a"), ("[]+", "a"),
        ):
            tree = read_pattern(pattern)
            expected = [way[:2] for way in reference.ways(tree, text, 0, ())]
            self.assertEqual(successes(tree, text)[0], expected, pattern)

    def test_successes_against_the_document_word_for_word(self):
        for tree, text, index in dense_cases(32, 2000):
            ways = reference.few_ways(tree, text, index)
            if ways is not None:
                self.assertEqual(successes(tree, text, index)[0], [way[:2] for way in ways], (tree, text, index))

    def test_successes_of_whole_runs(self):
        for tree, text, index in dense_cases(33, 500):
            ways = reference.few_ways(tree, text, index)
            if ways is not None:
                found = list(reference.run(compile_steps(tree), text, index, len(text), reference.Counted()))
                self.assertEqual(found, [way[:2] for way in ways if way[0] == len(text)])


class BoundTest(unittest.TestCase):
    def check(self, tree, text, index=0):
        count = reference.visits(tree, text, index, ())
        self.assertLessEqual(successes(tree, text, index)[1], 50 * count, (tree, text, index))

    def test_visits(self):
        """The counting itself, on trees for which it is easily done by hand."""
        for tree, text, count in (
            (EMPTY, "", 1), (A, "b", 1), (seq(A, B), "a", 3), (seq(A, B), "b", 2), (alt(A, B, EMPTY), "a", 4),
            (seq(alt(A, A), B), "a", 6), (repeat(A, 0, None), "aa", 4), (repeat(A, 0, 2), "aa", 3),
            (repeat(A, 0, 0), "aa", 1), (repeat(A, 3, 3), "aa", 4), (repeat(EMPTY, 0, None), "", 2),
            (repeat(EMPTY, 2, None), "", 4), (group("x", A), "a", 2), (look(A), "a", 2),
            (seq(A, A, look(A, "behind")), "aa", 7), (seq(repeat(A, 0, 1), B), "a", 5),
        ):
            self.assertEqual(reference.visits(tree, text, 0, ()), count, (tree, text))

    def test_trees_at_random(self):
        for tree, text, index in dense_cases(34, 1500):
            if reference.few_ways(tree, text, index) is not None:
                self.check(tree, text, index)

    def test_deep_trees_with_many_ways(self):
        for body in (alt(*[EMPTY] * 40), alt(*[A] * 40), alt(*[repeat(A, 0, 1)] * 18)):
            for times, around in (
                (8, lambda tree: repeat(tree, 0, 1)), (8, lambda tree: repeat(tree, 0, 1, True)),
                (8, lambda tree: repeat(tree, 1, 1)), (8, lambda tree: group("x", tree)),
                (2, lambda tree: repeat(tree, 0, None)), (1, lambda tree: repeat(tree, 1, 2)),
                (4, lambda tree: alt(tree, A)), (4, lambda tree: alt(NOTHING, tree)), (4, lambda tree: seq(EMPTY, tree)),
            ):
                self.check(wrapped(body, around, times), "a")

    def test_looks(self):
        for side in ("ahead", "behind"):
            for wanted in (True, False):
                tree = repeat(seq(look(repeat(alt(A, B), 0, None), side, wanted), A), 0, None)
                self.check(tree, "aaaaaa")
                self.check(seq(repeat(A, 0, None), look(seq(A, A, A, B), side, wanted)), "aaaaaa")

    def test_many_iterations(self):
        for body in (EMPTY, A, repeat(A, 0, 1), edge("end"), alt(EMPTY, A)):
            for least, most in ((0, 9), (9, 9), (9, None), (5, 7)):
                for lazy in (False, True):
                    self.check(repeat(body, least, most, lazy), "aa")
        self.check(seq(group("x", repeat(A, 0, 1)), repeat(same("x"), 3, None)), "aaaa")


if __name__ == "__main__":
    unittest.main()
