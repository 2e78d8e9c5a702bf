"""Sets of signs: points [3] and [6] and the interface of SignSet."""

import random
import types
import unittest

from surespan.alphabet import SIGNS
from surespan.signsets import SignSet

EMPTY = SignSet()
ALL = SignSet(SIGNS)


class SignSetTest(unittest.TestCase):
    def test_examples(self):
        self.assertEqual((SignSet("cab") | SignSet("xd")).ranges, [("a", "d"), ("x", "x")])
        self.assertEqual((~SignSet.between("\t", "y")).members, "z{|}~")

    def test_members_are_ascending_and_stand_once(self):
        self.assertEqual(SignSet("cabbac").members, "abc")
        self.assertEqual(SignSet("a\t~\n Z").members, "\t\n Za~")
        self.assertEqual(SignSet(SIGNS[::-1] + SIGNS).members, SIGNS)
        self.assertEqual(SignSet(signs="ba").members, "ab")

    def test_the_empty_set(self):
        self.assertEqual([EMPTY.members, EMPTY.least, EMPTY.ranges, len(EMPTY), list(EMPTY)], ["", None, [], 0, []])
        self.assertEqual(SignSet("").members, "")
        self.assertNotIn("a", EMPTY)

    def test_the_set_of_all_signs(self):
        self.assertEqual([ALL.members, ALL.least, len(ALL), list(ALL)], [SIGNS, "\t", 96, list(SIGNS)])
        self.assertEqual(ALL.ranges, [("\t", "~")])
        self.assertTrue(all(sign in ALL for sign in SIGNS))

    def test_least(self):
        self.assertEqual(SignSet("cb").least, "b")
        self.assertEqual(SignSet(" \n").least, "\n")

    def test_ranges_are_as_long_as_possible(self):
        self.assertEqual(SignSet("a").ranges, [("a", "a")])
        self.assertEqual(SignSet("ab").ranges, [("a", "b")])
        self.assertEqual(SignSet("acd").ranges, [("a", "a"), ("c", "d")])

    def test_neighbours(self):
        self.assertEqual(SignSet("$&").ranges, [("$", "&")])
        self.assertEqual(SignSet("\t\n").ranges, [("\t", "\n")])
        self.assertEqual(SignSet("\t\n !").ranges, [("\t", "!")])
        self.assertEqual(SignSet("\t ").ranges, [("\t", "\t"), (" ", " ")])

    def test_every_pair_of_neighbours(self):
        for first, last in zip(SIGNS, SIGNS[1:]):
            self.assertEqual(SignSet(first + last).ranges, [(first, last)])
            self.assertEqual(SignSet.between(first, last).members, first + last)

    def test_between(self):
        self.assertEqual(SignSet.between("a", "d").members, "abcd")
        self.assertEqual(SignSet.between("a", "a").members, "a")
        self.assertEqual(SignSet.between("#", "'").members, "#$&'")
        self.assertEqual(SignSet.between("\t", "~").members, SIGNS)
        self.assertEqual(SignSet.between("b", "a").members, "")
        self.assertEqual(SignSet.between("~", "\t").members, "")

    def test_between_is_a_static_method(self):
        self.assertIsInstance(vars(SignSet)["between"], staticmethod)
        self.assertIsInstance(SignSet.between("a", "b"), SignSet)

    def test_union_intersection_difference_complement(self):
        a, b = SignSet("abc"), SignSet("bcd")
        self.assertEqual((a | b).members, "abcd")
        self.assertEqual((a & b).members, "bc")
        self.assertEqual((a - b).members, "a")
        self.assertEqual((b - a).members, "d")
        self.assertEqual((~a).members, SIGNS.replace("abc", ""))

    def test_operations_with_the_empty_set_and_all_signs(self):
        a = SignSet("a~")
        for result, members in (
            (a | EMPTY, "a~"), (a & EMPTY, ""), (a - EMPTY, "a~"), (EMPTY - a, ""),
            (a | ALL, SIGNS), (a & ALL, "a~"), (a - ALL, ""), (a | a, "a~"), (a & a, "a~"), (a - a, ""),
            (~EMPTY, SIGNS), (~ALL, ""),
        ):
            self.assertEqual(result.members, members)

    def test_operations_by_definition(self):
        chance = random.Random(1)
        for _ in range(100):
            a = {sign for sign in SIGNS if chance.random() < 0.5}
            b = {sign for sign in SIGNS if chance.random() < 0.3}
            first, second = SignSet("".join(a)), SignSet("".join(b))
            self.assertEqual(list(first | second), sorted(a | b))
            self.assertEqual(list(first & second), sorted(a & b))
            self.assertEqual(list(first - second), sorted(a - b))
            self.assertEqual(list(~first), sorted(set(SIGNS) - a))
            self.assertIs(first.within(second), a <= b)
            self.assertIs((first & second).within(first), True)
            self.assertIs(first == second, a == b)
            joined = "".join(SignSet.between(low, high).members for low, high in first.ranges)
            self.assertEqual(joined, first.members)

    def test_results_are_new_sets(self):
        a, b = SignSet("ab"), SignSet("bc")
        for result in (a | a, a & a, a - EMPTY, ~~a, a | EMPTY):
            self.assertIsInstance(result, SignSet)
            self.assertIsNot(result, a)
        _ = [a | b, a & b, a - b, ~a]
        self.assertEqual([a.members, b.members], ["ab", "bc"])

    def test_it_is_immutable(self):
        a = SignSet("ab")
        for field in ("members", "least", "ranges"):
            with self.assertRaises(AttributeError):
                setattr(a, field, "c")
        before = a
        a |= SignSet("c")
        self.assertEqual([before.members, a.members], ["ab", "abc"])

    def test_ranges_is_a_new_list(self):
        a = SignSet("abx")
        a.ranges.append(("q", "q"))
        self.assertEqual(a.ranges, [("a", "b"), ("x", "x")])
        self.assertIsNot(a.ranges, a.ranges)

    def test_contains_and_iteration(self):
        a = SignSet("bad")
        self.assertEqual([sign in a for sign in "abcd"], [True, True, False, True])
        self.assertEqual([sign for sign in a], ["a", "b", "d"])
        self.assertEqual(len(a), 3)
        for sign in SIGNS:
            self.assertIs(sign in a, sign in ("a", "b", "d"))

    def test_only_single_signs_are_contained(self):
        self.assertNotIn("ab", SignSet("abc"))
        self.assertNotIn("", SignSet("abc"))

    def test_equality(self):
        self.assertIs(SignSet("ab") == SignSet("bab"), True)
        self.assertIs(SignSet("ab") == SignSet("abc"), False)
        self.assertIs(SignSet("ab") != SignSet("ba"), False)
        self.assertIs(SignSet() == SignSet(""), True)

    def test_equality_with_objects_of_other_kinds(self):
        lookalike = types.SimpleNamespace(_members="ab", members="ab")
        for other in ("ab", ["a", "b"], ("a", "b"), {"a", "b"}, frozenset("ab"), None, 2, True, lookalike):
            self.assertIs(SignSet("ab") == other, False)
            self.assertIs(other == SignSet("ab"), False)
            self.assertIs(SignSet("ab") != other, True)
        self.assertIs(SignSet() == "", False)
        self.assertIs(SignSet() == None, False)  # noqa: E711

    def test_within(self):
        self.assertIs(SignSet("ab").within(SignSet("abc")), True)
        self.assertIs(SignSet("abc").within(SignSet("ab")), False)
        self.assertIs(SignSet("ab").within(SignSet("ab")), True)
        self.assertIs(EMPTY.within(EMPTY), True)
        self.assertIs(EMPTY.within(SignSet("a")), True)
        self.assertIs(SignSet("a").within(EMPTY), False)
        self.assertIs(ALL.within(ALL), True)


if __name__ == "__main__":
    unittest.main()
