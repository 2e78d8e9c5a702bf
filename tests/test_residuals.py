"""Residuals: points [14], [41] and [44]."""

import unittest

from surespan.errors import NotRegular
from surespan.meaning import first_answer, first_way
from surespan.reading import read_pattern
from surespan.residuals import Residual, residual_answer
from surespan.tables import Table
from surespan.trees import is_regular
from tests import reference
from tests.samples import A, B, dense_cases, group, look, repeat, same, seq, trees_of_each_form

MODES = ("search", "here", "whole")


def expected_result(tree, text, mode):
    if mode == "search":
        return first_answer(tree, text)
    way = first_way(tree, text, whole=mode == "whole")
    return None if way is None else (0,) + way


class ResidualTest(unittest.TestCase):
    def follow(self, tree, text, mode):
        """Check the results behind each beginning of a text."""
        residual = Residual(tree, mode=mode)
        for size in range(len(text) + 1):
            self.assertEqual(residual.length, size)
            expected = expected_result(tree, text[:size], mode)
            self.assertEqual(residual.answer(), expected, (tree, text[:size], mode))
            if size < len(text):
                residual = residual.after(text[size])
        self.assertEqual(residual_answer(tree, text, mode=mode), expected_result(tree, text, mode))

    def test_example(self):
        residual = Residual(read_pattern("ab?"))
        self.assertEqual(residual.after("a").answer(), (0, 1, ()))

    def test_the_three_modes(self):
        tree = read_pattern("{as x:b}+~")
        residuals = [Residual(tree), Residual(tree, mode="here"), Residual(tree, mode="whole")]
        self.assertEqual([residual.answer() for residual in residuals], [None] * 3)
        residuals = [residual.after("b") for residual in residuals]
        self.assertEqual([residual.answer() for residual in residuals], [(0, 1, (("x", 0, 1),))] * 3)
        residuals = [residual.after("b") for residual in residuals]
        answer = (0, 1, (("x", 0, 1),))
        self.assertEqual([residual.answer() for residual in residuals], [answer, answer, (0, 2, (("x", 1, 2),))])
        residuals = [residual.after("a") for residual in residuals]
        self.assertEqual([residual.answer() for residual in residuals], [answer, answer, None])
        self.assertEqual(residual_answer(tree, "abb"), (1, 2, (("x", 1, 2),)))
        self.assertIsNone(residual_answer(tree, "abb", mode="here"))
        self.assertEqual(residual_answer(tree, "abb", mode="search"), (1, 2, (("x", 1, 2),)))

    def test_length(self):
        residual = Residual(read_pattern("[]"))
        self.assertEqual(residual.length, 0)
        for size in range(1, 6):
            residual = residual.after("a")
            self.assertEqual(residual.length, size)

    def test_several_continuations_of_one_residual(self):
        tree = read_pattern("{as x:a}({as y:b}|c)*")
        begun = Residual(tree).after("z").after("a")
        later = [begun.after(sign) for sign in "bcab"]
        self.assertEqual(begun.length, 2)
        self.assertEqual(begun.answer(), (1, 2, (("x", 1, 2),)))
        with_y = (1, 3, (("x", 1, 2), ("y", 2, 3)))
        self.assertEqual(
            [residual.answer() for residual in later], [with_y, (1, 3, (("x", 1, 2),)), (1, 2, (("x", 1, 2),)), with_y],
        )
        self.assertEqual([residual.length for residual in later], [3] * 4)
        self.assertEqual(later[1].after("b").answer(), (1, 4, (("x", 1, 2), ("y", 3, 4))))
        self.assertEqual(later[1].answer(), (1, 3, (("x", 1, 2),)))
        self.assertIsNot(begun.after("b"), begun.after("b"))

    def test_a_residual_stays_as_it_was(self):
        for tree, text, _ in dense_cases(44, 150, kinds=("look", "edge"), depths=(3, 4, 4)):
            for mode in MODES:
                residual = Residual(tree, mode=mode)
                for sign in text:
                    residual = residual.after(sign)
                before = residual.answer()
                for more in ("a", "bb", "\na", " "):
                    later = residual
                    for sign in more:
                        later = later.after(sign)
                    self.assertEqual(later.answer(), expected_result(tree, text + more, mode), (tree, text, more, mode))
                    self.assertEqual(residual.answer(), before)
                    self.assertEqual(residual.length, len(text))

    def test_looks_ahead_that_are_decided_only_at_the_end(self):
        tree = read_pattern("{not ahead:.*b}{as x:a}|{ahead:.*c}{as y:a}|{as z:a}")
        residual = Residual(tree).after("a")
        self.assertEqual(residual.answer(), (0, 1, (("x", 0, 1),)))
        residual = residual.after("b")
        self.assertEqual(residual.answer(), (0, 1, (("z", 0, 1),)))
        self.assertEqual(residual.after("c").answer(), (0, 1, (("y", 0, 1),)))
        self.assertEqual(residual.after("a").answer(), (0, 1, (("z", 0, 1),)))
        for text in ("aab", "aa", "aaa\n", "a\nb", "aaca", "abca"):
            for pattern in (
                "({ahead:.*{end}}{as x:a}|a)*", "{not ahead:aa}a*", "({not ahead:a*{end}}a)*", "a{ahead:(a|b)*c}|.",
                "({ahead:a.}|{not ahead:..b})a", "{ahead:a*{line end}}a", "{ahead:{end}}|{ahead:.{end}}.",
            ):
                for mode in MODES:
                    self.follow(read_pattern(pattern), text, mode)

    def test_trees_of_each_form(self):
        for tree in trees_of_each_form():
            if is_regular(tree):
                for mode in MODES:
                    self.follow(tree, "aab\n", mode)
                    for text in ("", "b", "ab"):
                        self.assertEqual(residual_answer(tree, text, mode=mode), reference.result(tree, text, mode))

    def test_many_trees(self):
        for kinds in (("look", "edge"), ()):
            for tree, text, _ in dense_cases(45, 500, kinds=kinds):
                for mode in MODES:
                    self.follow(tree, text, mode)

    def test_residuals_and_tables_agree(self):
        for tree, text, _ in dense_cases(46, 200, kinds=("look", "edge")):
            for mode in MODES:
                self.assertEqual(residual_answer(tree, text * 3, mode=mode), Table(tree, mode=mode).answer(text * 3))

    def test_not_regular(self):
        for tree in (same("x"), seq(group("x", A), same("x")), seq(group("x", A), look(B), repeat(same("x"), 0, 0))):
            for mode in MODES:
                with self.assertRaises(NotRegular):
                    Residual(tree, mode=mode)
                with self.assertRaises(NotRegular):
                    residual_answer(tree, "a", mode=mode)
            with self.assertRaises(NotRegular):
                residual_answer(tree, "")


if __name__ == "__main__":
    unittest.main()
