"""The machine: points [31] to [33], and the functions that run it."""

import itertools
import types
import unittest

from surespan.errors import OutOfSteps
from surespan.meaning import first_answer, first_way
from surespan.reading import read_pattern
from surespan.steps import compile_steps
from surespan.walking import each_way, walk_answer, walk_cost, walk_way
from tests import reference
from tests.samples import A, EMPTY, dense_cases

FAR = 10 ** 30


def cost_of(tree, text, index=0, goal=None):
    """Return the cost of a run, counted by the machine of the tests."""
    counted = reference.Counted()
    next(reference.run(compile_steps(tree), text, index, goal, counted), None)
    return counted.steps


def cost_of_answer(tree, text, start):
    """Return the number of steps up to the first answer, counted by the machine of the tests."""
    counted = reference.Counted()
    for index in range(start, len(text) + 1):
        if next(reference.run(compile_steps(tree), text, index, None, counted), None) is not None:
            break
    return counted.steps


class WalkTest(unittest.TestCase):
    def test_examples(self):
        with self.assertRaises(OutOfSteps) as caught:
            walk_way(read_pattern("a*a"), "aaa", budget=0)
        self.assertEqual(caught.exception.budget, 0)
        self.assertEqual(list(each_way(read_pattern("(a|a)b?"), "ab")), [(2, ()), (1, ()), (2, ()), (1, ())])

    def test_ways(self):
        tree = read_pattern("{as x:a*}({same x}b|c*)")
        self.assertEqual(walk_way(tree, "aaaab"), (4, (("x", 0, 4),)))
        self.assertEqual(walk_way(tree, "aaaab", whole=True), (5, (("x", 0, 2),)))
        self.assertEqual(walk_way(tree, "aaaab", 2, whole=True), (5, (("x", 2, 3),)))
        self.assertEqual(walk_way(tree, "aaaab", index=4), (5, (("x", 4, 4),)))
        self.assertIsNone(walk_way(tree, "aaaabb", whole=True))

    def test_answers(self):
        tree = read_pattern("{as x:b}c?")
        self.assertEqual(walk_answer(tree, "abcb"), (1, 3, (("x", 1, 2),)))
        self.assertEqual(walk_answer(tree, "abcb", 2), (3, 4, (("x", 3, 4),)))
        self.assertEqual(walk_answer(tree, "abcb", start=3), (3, 4, (("x", 3, 4),)))
        self.assertIsNone(walk_answer(tree, "abcb", 4))
        self.assertEqual(walk_answer(read_pattern("{behind:a}"), "aa", 1), (1, 1, ()))

    def test_the_goal_of_a_whole_run_is_not_that_of_its_looks(self):
        self.assertEqual(walk_way(read_pattern("{ahead:a}ab"), "ab", whole=True), (2, ()))
        self.assertEqual(walk_way(read_pattern("a{behind:a}b"), "ab", whole=True), (2, ()))
        self.assertEqual(walk_way(read_pattern("a{behind:.*}{not behind:b}b"), "ab", whole=True), (2, ()))

    def test_the_same_as_by_definition(self):
        for tree, text, index in dense_cases(41, 2000):
            if all(reference.few_ways(tree, text, i) is not None for i in range(len(text) + 1)):
                self.assertEqual(walk_way(tree, text, index), first_way(tree, text, index), (tree, text, index))
                whole = walk_way(tree, text, index, whole=True)
                self.assertEqual(whole, first_way(tree, text, index, whole=True), (tree, text, index))
                self.assertEqual(walk_answer(tree, text, index), first_answer(tree, text, index), (tree, text, index))


class EachWayTest(unittest.TestCase):
    def test_equal_outcomes_are_repeated(self):
        self.assertEqual(list(each_way(read_pattern("(|a)<2>"), "a")), [(0, ()), (1, ()), (1, ())])
        self.assertEqual(list(each_way(read_pattern("[]"), "a")), [])
        self.assertEqual(list(each_way(tree=A, text="ba", index=1)), [(2, ())])

    def test_against_the_document_word_for_word(self):
        for tree, text, index in dense_cases(42, 2000):
            ways = reference.few_ways(tree, text, index)
            if ways is not None:
                self.assertEqual(list(each_way(tree, text, index)), [way[:2] for way in ways], (tree, text, index))

    def test_each_way_is_found_only_when_it_is_read(self):
        # There are 2 ** 300 ways in all.
        found = each_way(read_pattern("(a|a)*"), "a" * 300)
        self.assertIsInstance(found, types.GeneratorType)
        self.assertEqual(list(itertools.islice(found, 3)), [(300, ()), (300, ()), (299, ())])

    def test_two_generators_do_not_share_their_state(self):
        tree = read_pattern("a*{as x:b?}")
        one, other = each_way(tree, "ab"), each_way(tree, "ab")
        expected = list(each_way(tree, "ab"))
        self.assertEqual(next(one), expected[0])
        self.assertEqual(next(one), expected[1])
        self.assertEqual(list(other), expected)
        self.assertEqual(list(one), expected[2:])


class CostTest(unittest.TestCase):
    def test_costs_are_those_of_the_compiled_steps(self):
        for tree, text, index in dense_cases(43, 1500):
            if reference.few_ways(tree, text, index) is not None:
                self.assertEqual(walk_cost(tree, text, index), cost_of(tree, text, index), (tree, text, index))
                whole = walk_cost(tree, text, index, whole=True)
                self.assertEqual(whole, cost_of(tree, text, index, len(text)), (tree, text, index))

    def test_the_last_step_counts(self):
        self.assertEqual(walk_cost(EMPTY, ""), len(compile_steps(EMPTY)))
        self.assertEqual(walk_cost(A, "b"), 1)
        self.assertEqual(walk_cost(A, "a"), len(compile_steps(A)))

    def test_the_runs_of_looks_count(self):
        for pattern, text, index in (
            ("{ahead:aaaa}", "aaaa", 0), ("{not ahead:aaaab}", "aaaa", 0), ("{behind:aaa}", "aaaa", 3),
            ("{not behind:baaa}", "aaaa", 4), ("({ahead:a*}a)*", "aaaa", 0),
        ):
            tree = read_pattern(pattern)
            cost = cost_of(tree, text, index)
            self.assertEqual(walk_cost(tree, text, index), cost)
            self.assertGreater(cost, len(compile_steps(tree)))
        # The look step, a run from each of the indexes 4 to 0 that fails at its first step, and the acceptance.
        self.assertEqual(walk_cost(read_pattern("{not behind:b}"), "aaaa", 4), 1 + 5 + 1)

    def test_a_look_ends_with_its_first_success(self):
        # The look step, the step of its run, and the acceptance of both.
        self.assertEqual(walk_cost(read_pattern("{ahead:}"), "aaaa"), 1 + 1 + 1)
        # A look behind begins at the index and goes back, so the runs from 3, 2, 1 and 0 are not needed.
        self.assertEqual(walk_cost(read_pattern("{behind:}"), "aaaa", 4), 1 + 1 + 1)
        # The run from 4 fails at its first step, the one from 3 at its second, the one from 2 succeeds.
        self.assertEqual(walk_cost(read_pattern("{behind:aa}"), "aaaa", 4), 1 + (1 + 2 + 3) + 1)


class BudgetTest(unittest.TestCase):
    def refuse(self, budget, call):
        with self.assertRaises(OutOfSteps) as caught:
            call()
        self.assertEqual(caught.exception.budget, budget)

    def test_exactly_the_cost_and_one_less(self):
        for tree, text, index in dense_cases(44, 800):
            if any(reference.few_ways(tree, text, i) is None for i in range(len(text) + 1)):
                continue
            for whole in (False, True):
                cost = cost_of(tree, text, index, len(text) if whole else None)
                expected = walk_way(tree, text, index, whole=whole)
                for budget in (cost, cost + 1, FAR, None):
                    self.assertEqual(walk_way(tree, text, index, whole=whole, budget=budget), expected)
                self.refuse(cost - 1, lambda: walk_way(tree, text, index, whole=whole, budget=cost - 1))
            cost = cost_of_answer(tree, text, index)
            expected = walk_answer(tree, text, index)
            self.assertEqual(walk_answer(tree, text, index, budget=cost), expected)
            self.refuse(cost - 1, lambda: walk_answer(tree, text, index, budget=cost - 1))

    def test_budgets_of_0_and_none(self):
        self.refuse(0, lambda: walk_way(EMPTY, "", budget=0))
        self.refuse(0, lambda: walk_way(A, "b", whole=True, budget=0))
        self.refuse(0, lambda: walk_answer(EMPTY, "", budget=0))
        self.assertEqual(walk_way(EMPTY, "", budget=None), (0, ()))
        self.assertEqual(walk_answer(EMPTY, "", budget=None), (0, 0, ()))

    def test_where_no_run_takes_place(self):
        self.assertIsNone(walk_answer(EMPTY, "", 1, budget=0))
        self.assertIsNone(walk_answer(read_pattern("a*"), "aa", 400, budget=0))

    def test_the_budget_is_for_all_runs_together(self):
        text = "b" * 20 + "a"
        cost = sum(walk_cost(A, text, index) for index in range(21))
        self.assertEqual(walk_answer(A, text, budget=cost), (20, 21, ()))
        self.refuse(cost - 1, lambda: walk_answer(A, text, budget=cost - 1))
        self.assertEqual(walk_answer(A, text, 5, budget=cost - 5), (20, 21, ()))

    def test_a_run_is_stopped_as_soon_as_the_budget_is_used_up(self):
        # The whole run would need more than 2 ** 300 steps.
        tree = read_pattern("(a|a)*b")
        self.refuse(1000, lambda: walk_way(tree, "a" * 300, budget=1000))
        self.refuse(1000, lambda: walk_answer(tree, "a" * 300, budget=1000))
        # So is the run of a look.
        tree = read_pattern("{ahead:(a|a)*b}")
        self.refuse(1000, lambda: walk_way(tree, "a" * 300, budget=1000))


if __name__ == "__main__":
    unittest.main()
