"""The errors: their fields and their places below SpanError."""

import unittest

from surespan import errors

FIELDS = {
    "PatternFault": "index",
    "TemplateFault": "index",
    "BadTree": "path",
    "UnknownGroup": "name",
    "OutOfSteps": "budget",
    "TooManyStates": "limit",
    "TooManyAnswers": "limit",
    "NoSuchText": "count",
}
BARE = ["NotRegular", "NotPlain", "StreamClosed"]
VALUES = {"index": 7, "path": (1, 0), "name": "x", "budget": 10 ** 30, "limit": 0, "count": 3}


class ErrorsTest(unittest.TestCase):
    def test_each_field_holds_the_argument(self):
        for title, field in FIELDS.items():
            value = VALUES[field]
            kind = getattr(errors, title)
            self.assertEqual(getattr(kind(value), field), value, title)
            self.assertEqual(getattr(kind(**{field: value}), field), value, title)

    def test_classes_with_a_field_take_exactly_one_argument(self):
        for title in FIELDS:
            kind = getattr(errors, title)
            self.assertRaises(TypeError, kind)
            self.assertRaises(TypeError, kind, 1, 2)

    def test_classes_without_fields_take_no_argument(self):
        for title in BARE + ["SpanError"]:
            kind = getattr(errors, title)
            self.assertEqual(vars(kind()), {}, title)
            self.assertRaises(TypeError, kind, 1)

    def test_each_is_a_span_error_and_a_value_error(self):
        self.assertTrue(issubclass(errors.SpanError, ValueError))
        for title in list(FIELDS) + BARE:
            self.assertEqual(getattr(errors, title).__bases__, (errors.SpanError,), title)

    def test_none_is_below_another_one(self):
        kinds = [getattr(errors, title) for title in list(FIELDS) + BARE]
        for kind in kinds:
            self.assertEqual([other for other in kinds if issubclass(kind, other)], [kind])

    def test_each_can_be_raised_and_caught_by_its_name(self):
        for title, field in FIELDS.items():
            kind = getattr(errors, title)
            with self.assertRaises(kind) as caught:
                raise kind(VALUES[field])
            self.assertEqual(getattr(caught.exception, field), VALUES[field])
        for title in BARE:
            with self.assertRaises(errors.SpanError):
                raise getattr(errors, title)()


if __name__ == "__main__":
    unittest.main()
