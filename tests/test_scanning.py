"""Scans: points [29], [67] and [68] (surespan.scanning)."""

import unittest

from surespan.answers import Answer
from surespan.meaning import first_answer
from surespan.reading import read_pattern
from surespan.scanning import find, scan
from surespan.walking import walk_answer
from tests import reference
from tests.samples import dense_cases, trees_of_each_form


def scan_of(answer, text):
    """Return the scan of a text, where `answer` returns the first answer from a start index: point [67]."""
    found, start = [], 0
    while True:
        triple = answer(start)
        if triple is None:
            return found
        found.append(triple)
        start = triple[1] if triple[1] > triple[0] else triple[1] + 1


class FindTest(unittest.TestCase):
    def test_example(self):
        answer = find(read_pattern("{as x:b}c?"), "abc")
        self.assertIsInstance(answer, Answer)
        found = [answer.start, answer.end, answer.whole, answer["x"], answer.span("x"), len(answer)]
        self.assertEqual(found, [1, 3, "bc", "b", (1, 2), 1])

    def test_the_answer(self):
        tree = read_pattern("{as x:a+}{as y:b}?")
        self.assertEqual(find(tree, "caab"), Answer("caab", 1, 4, (("x", 1, 3), ("y", 3, 4))))
        self.assertEqual(find(tree, "caa").row, (("x", 1, 3),))
        self.assertEqual(find(tree, "caa").text, "caa")
        self.assertIsNone(find(tree, "cb"))
        self.assertIsNone(find(tree, ""))

    def test_start_indexes(self):
        tree = read_pattern("a*")
        self.assertEqual([find(tree, "baa", start).start for start in range(4)], [0, 1, 2, 3])
        self.assertEqual([find(tree, "baa", start).end for start in range(4)], [0, 3, 3, 3])
        for start in (4, 5, 400):
            self.assertIsNone(find(tree, "baa", start))
        self.assertEqual(find(tree, "baa", start=1).whole, "aa")
        # A start index does not cut the text.
        self.assertEqual(find(read_pattern("{behind:b}a"), "bac", 1).start, 1)
        self.assertIsNone(find(read_pattern("{start}a"), "aa", 1))
        self.assertEqual(find(read_pattern("{line start}a"), "a\na", 1).start, 2)
        self.assertEqual(find(read_pattern("{word edge}b"), "ab b", 1).start, 3)

    def test_trees_that_are_not_regular(self):
        tree = read_pattern("{as x:a|b}{same x}")
        self.assertEqual(find(tree, "abba"), Answer("abba", 1, 3, (("x", 1, 2),)))
        self.assertIsNone(find(tree, "abab"))


class ScanTest(unittest.TestCase):
    def test_example(self):
        self.assertEqual(scan(read_pattern("a*"), "baac"), [(0, 0, ()), (1, 3, ()), (3, 3, ()), (4, 4, ())])

    def test_simple_trees(self):
        for pattern, text, expected in (
            ("a", "aba", [(0, 1), (2, 3)]), ("a", "", []), ("a", "bcd", []), ("", "ab", [(0, 0), (1, 1), (2, 2)]), ("", "", [(0, 0)]),
            ("a*", "aa", [(0, 2), (2, 2)]), ("a+~", "aa", [(0, 1), (1, 2)]), ("a*~", "aa", [(0, 0), (1, 1), (2, 2)]), ("aa|a", "aaa", [(0, 2), (2, 3)]),
            ("a?", "ba", [(0, 0), (1, 2), (2, 2)]), ("(|a)b?", "ab", [(0, 0), (1, 2), (2, 2)]), ("[]", "ab", []), ("{end}", "ab", [(2, 2)]),
            ("{word edge}", "a b", [(0, 0), (1, 1), (2, 2), (3, 3)]), ("a*{end}", "aab", [(3, 3)]), ("b|{end}", "ab", [(1, 2), (2, 2)]),
        ):
            self.assertEqual([answer[:2] for answer in scan(read_pattern(pattern), text)], expected, (pattern, text))

    def test_rows(self):
        expected = [(0, 1, (("x", 0, 1),)), (1, 2, (("y", 1, 2),)), (3, 4, (("x", 3, 4),))]
        self.assertEqual(scan(read_pattern("{as x:a}|{as y:b}"), "abca"), expected)

    def test_the_kinds_of_the_values(self):
        found = scan(read_pattern("{as x:a}"), "aa")
        self.assertIs(type(found), list)
        self.assertTrue(all(type(answer) is tuple and type(answer[2]) is tuple for answer in found))

    def test_looks_behind_an_answer_told_before(self):
        self.assertEqual(scan(read_pattern("{behind:a}b|a"), "abab"), [(0, 1, ()), (1, 2, ()), (2, 3, ()), (3, 4, ())])
        self.assertEqual(scan(read_pattern("{not behind:a}a"), "aaba"), [(0, 1, ()), (3, 4, ())])
        self.assertEqual(scan(read_pattern("{behind:ab}.|ab"), "abab"), [(0, 2, ()), (2, 3, ())])
        self.assertEqual(scan(read_pattern("{line start}a"), "aa\na"), [(0, 1, ()), (3, 4, ())])
        self.assertEqual(scan(read_pattern("a{ahead:a}"), "aaa"), [(0, 1, ()), (1, 2, ())])

    def test_empty_answers_beside_others(self):
        # Behind an answer that is not empty, an empty one may begin where it ended; behind an empty one it may not.
        self.assertEqual([answer[:2] for answer in scan(read_pattern("b|"), "abba")], [(0, 0), (1, 2), (2, 3), (3, 3), (4, 4)])
        self.assertEqual([answer[:2] for answer in scan(read_pattern("|b"), "abba")], [(0, 0), (1, 1), (2, 2), (3, 3), (4, 4)])
        self.assertEqual([answer[:2] for answer in scan(read_pattern("{ahead:b}|b"), "abb")], [(1, 1), (2, 2)])
        self.assertEqual([answer[:2] for answer in scan(read_pattern("{behind:b}|b"), "abb")], [(1, 2), (2, 2), (3, 3)])

    def test_trees_with_a_same(self):
        tree = read_pattern("{as x:[ab]+}{same x}|{as y:.}")
        expected = [(0, 4, (("x", 0, 2),)), (4, 6, (("x", 4, 5),)), (6, 7, (("y", 6, 7),))]
        self.assertEqual(scan(tree, "ababbba"), expected)

    def test_many_trees(self):
        for kinds in (("look", "edge", "same"), ()):
            for tree, text, index in dense_cases(67, 500, kinds=kinds):
                found = scan(tree, text)
                self.assertEqual(found, scan_of(lambda start: first_answer(tree, text, start), text), (tree, text))
                for start in range(index, len(text) + 3):
                    expected = first_answer(tree, text, start)
                    answer = find(tree, text, start)
                    if expected is None:
                        self.assertIsNone(answer)
                    else:
                        self.assertEqual(answer, Answer(text, *expected))

    def test_by_the_reference(self):
        for tree in trees_of_each_form():
            for text in ("", "a", "aab", "b\na", "abab"):
                self.assertEqual(scan(tree, text), scan_of(lambda start: reference.answer(tree, text, start), text))
        for tree, text, _ in dense_cases(68, 300, depths=(3, 4, 4)):
            if all(reference.few_ways(tree, text, index) is not None for index in range(len(text) + 1)):
                expected = scan_of(lambda start: reference.answer(tree, text, start), text)
                self.assertEqual(scan(tree, text), expected)
                self.assertEqual(scan_of(lambda start: walk_answer(tree, text, start), text), expected)


if __name__ == "__main__":
    unittest.main()
