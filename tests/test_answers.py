"""Answers: points [25] and [66] (surespan.answers)."""

import unittest

from surespan.answers import Answer
from surespan.errors import UnknownGroup

ROW = (("a", 0, 2), ("b_1", 3, 3), ("x", 1, 5))


class AnswerTest(unittest.TestCase):
    def setUp(self):
        self.answer = Answer("abcdef", 0, 5, ROW)

    def test_fields(self):
        self.assertEqual(self.answer.text, "abcdef")
        self.assertEqual([self.answer.start, self.answer.end], [0, 5])
        self.assertIs(self.answer.row, ROW)
        answer = Answer(text="ab", start=1, end=2, row=())
        self.assertEqual((answer.text, answer.start, answer.end, answer.row), ("ab", 1, 2, ()))

    def test_whole(self):
        self.assertEqual(self.answer.whole, "abcde")
        self.assertEqual([Answer("abc", start, 2, ()).whole for start in range(3)], ["ab", "b", ""])
        self.assertEqual(Answer("", 0, 0, ()).whole, "")

    def test_captured_texts(self):
        self.assertEqual([self.answer["a"], self.answer["b_1"], self.answer["x"]], ["ab", "", "bcde"])

    def test_names_that_are_not_set(self):
        for name in ("b", "z", "aa", "a_", "x1", "abcdefghijkl"):
            with self.assertRaises(UnknownGroup) as caught:
                self.answer[name]
            self.assertEqual(caught.exception.name, name)
            self.assertIs(name in self.answer, False)
            self.assertIsNone(self.answer.span(name))
        with self.assertRaises(UnknownGroup):
            Answer("", 0, 0, ())["a"]

    def test_names_that_are_set(self):
        for name in ("a", "b_1", "x"):
            self.assertIs(name in self.answer, True)

    def test_span(self):
        self.assertEqual([self.answer.span(name) for name in ("a", "b_1", "x", "y")], [(0, 2), (3, 3), (1, 5), None])

    def test_length(self):
        self.assertEqual([len(self.answer), len(Answer("a", 0, 1, ())), len(Answer("a", 0, 1, ROW[:1]))], [3, 0, 1])

    def test_iteration(self):
        self.assertEqual(list(self.answer), ["a", "b_1", "x"])
        self.assertEqual(list(self.answer), ["a", "b_1", "x"])
        self.assertEqual(list(Answer("a", 0, 1, ())), [])
        self.assertEqual({name: self.answer[name] for name in self.answer}, {"a": "ab", "b_1": "", "x": "bcde"})

    def test_two_walks_at_once(self):
        first, second = iter(self.answer), iter(self.answer)
        self.assertEqual([next(first), next(first), next(second), next(first), next(second)], ["a", "b_1", "a", "x", "b_1"])
        pairs = [(one, two) for one in self.answer for two in self.answer]
        self.assertEqual(len(pairs), 9)
        self.assertEqual(pairs[:4], [("a", "a"), ("a", "b_1"), ("a", "x"), ("b_1", "a")])

    def test_equality(self):
        self.assertIs(self.answer == Answer("abcdef", 0, 5, (("a", 0, 2), ("b_1", 3, 3), ("x", 1, 5))), True)
        self.assertIs(self.answer != Answer("abcdef", 0, 5, tuple(list(ROW))), False)
        for other in (
            Answer("abcdeg", 0, 5, ROW), Answer("abcdef", 1, 5, ROW), Answer("abcdef", 0, 4, ROW), Answer("abcdef", 0, 5, ROW[:2]),
            Answer("abcdef", 0, 5, ()), Answer("abcdef", 0, 5, ROW[:2] + (("x", 1, 4),)),
        ):
            self.assertIs(self.answer == other, False)
            self.assertIs(self.answer != other, True)

    def test_objects_of_another_kind(self):
        for other in (None, 0, "abcde", (0, 5, ROW), ("abcdef", 0, 5, ROW), ["a", "b_1", "x"], {"a": "ab"}, object(), Answer):
            self.assertIs(self.answer == other, False)
            self.assertIs(other == self.answer, False)

    def test_an_answer_without_names_is_not_equal_to_another_empty_thing(self):
        self.assertFalse(Answer("", 0, 0, ()) == ())
        self.assertFalse(Answer("", 0, 0, ()) == "")


if __name__ == "__main__":
    unittest.main()
