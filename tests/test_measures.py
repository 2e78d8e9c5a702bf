"""Measures of trees: points [15] and [16]."""

import unittest

from surespan.alphabet import SIGNS
from surespan.errors import NotPlain
from surespan.measures import depth, first_signs, length_bounds, needed_signs, size, weight
from surespan.reading import read_pattern
from tests.samples import (
    A, B, C, EDGE_KINDS, EMPTY, Growing, NOTHING, alt, edge, group, look, repeat, same, seq,
)

ALWAYS_DEAD = [
    NOTHING, seq(A, NOTHING), seq(NOTHING, A), alt(NOTHING, NOTHING), alt(NOTHING, seq(A, NOTHING)),
    repeat(NOTHING, 1, None), repeat(NOTHING, 2, 3), repeat(seq(A, NOTHING), 1, 1), group("x", NOTHING),
    seq(repeat(A, 0, None), group("x", repeat(NOTHING, 1, 2))), seq(EMPTY, repeat(seq(B, NOTHING), 9, 9)),
]


def joined(first, second, longest):
    return {u + v for u in first for v in second if len(u + v) <= longest}


def accepted(tree, longest):
    """Return the set of the texts of a plain tree with at most `longest` signs."""
    kind = tree[0]
    if kind == "empty":
        return {""}
    if kind == "set":
        return set(tree[1])
    if kind == "group":
        return accepted(tree[2], longest)
    if kind == "alt":
        return set().union(*[accepted(branch, longest) for branch in tree[1]])
    if kind == "seq":
        found = {""}
        for part in tree[1]:
            found = joined(found, accepted(part, longest), longest)
        return found
    body, least, most = tree[1:4]
    once, found = accepted(body, longest), {""}
    for _ in range(least):
        found = joined(found, once, longest)
    for _ in range(longest if most is None else most - least):
        found = found | joined(found, once, longest)
    return found


def lengths(tree, longest):
    """Return the set of the lengths, at most `longest`, of the texts of a plain tree."""
    kind = tree[0]
    if kind == "empty":
        return {0}
    if kind == "set":
        return {1} if tree[1] else set()
    if kind == "group":
        return lengths(tree[2], longest)
    if kind == "alt":
        return set().union(*[lengths(branch, longest) for branch in tree[1]])
    if kind == "seq":
        found = {0}
        for part in tree[1]:
            found = {n + m for n in found for m in lengths(part, longest) if n + m <= longest}
        return found
    body, least, most = tree[1:4]
    once, found = lengths(body, longest), {0}
    for _ in range(least):
        found = {n + m for n in found for m in once if n + m <= longest}
    for _ in range(longest if most is None else most - least):
        found = found | {n + m for n in found for m in once if n + m <= longest}
    return found


class CountsTest(unittest.TestCase):
    def test_size(self):
        self.assertEqual([size(A), size(EMPTY), size(edge("end")), size(same("x"))], [1, 1, 1, 1])
        self.assertEqual(size(seq(A, B)), 3)
        self.assertEqual(size(repeat(A, 3, 9)), 2)
        self.assertEqual(size(group("x", alt(A, look(seq(B, C))))), 7)

    def test_depth(self):
        self.assertEqual([depth(A), depth(EMPTY), depth(edge("end")), depth(same("x"))], [1, 1, 1, 1])
        self.assertEqual([depth(repeat(A, 0, 1)), depth(group("x", A)), depth(look(A))], [2, 2, 2])
        self.assertEqual(depth(seq(A, B, C)), 2)
        self.assertEqual(depth(alt(A, group("x", repeat(B, 0, 1)), group("y", C))), 4)
        self.assertEqual(depth(alt(seq(A, look(B)), C)), 4)

    def test_weight_example(self):
        self.assertEqual(weight(("repeat", ("set", "a"), 2, None, False)), 3)

    def test_weight_of_leaves(self):
        self.assertEqual([weight(A), weight(("set", "abc")), weight(NOTHING)], [1, 1, 1])
        self.assertEqual([weight(EMPTY), weight(edge("start")), weight(same("x"))], [0, 0, 0])

    def test_weight_is_a_sum(self):
        self.assertEqual(weight(seq(A, B, EMPTY, C)), 3)
        self.assertEqual(weight(alt(A, alt(B, C), edge("end"))), 3)
        self.assertEqual(weight(group("x", seq(A, B))), 2)
        self.assertEqual(weight(look(seq(A, B), "behind", False)), 2)

    def test_weight_of_repeats(self):
        for least, most, expected in (
            (0, None, 1), (1, None, 2), (9, None, 10), (0, 0, 0), (0, 1, 1), (1, 1, 1), (2, 5, 5), (9, 9, 9), (0, 9, 9),
        ):
            self.assertEqual(weight(repeat(A, least, most)), expected)
            self.assertEqual(weight(repeat(seq(A, B), least, most, True)), 2 * expected)
        self.assertEqual(weight(repeat(repeat(seq(A, B), 2, None), 0, 3)), 18)
        self.assertEqual(weight(repeat(EMPTY, 5, 5)), 0)

    def test_parts_of_trees(self):
        part = seq(same("x"), repeat(seq(A, same("y")), 0, 2))
        self.assertEqual([size(part), depth(part), weight(part)], [6, 4, 2])


class LengthBoundsTest(unittest.TestCase):
    def test_example(self):
        self.assertEqual(length_bounds(read_pattern("a<2,3>|b")), (1, 3))

    def test_patterns(self):
        for text, bounds in (
            ("", (0, 0)), ("a", (1, 1)), ("[ab]c", (2, 2)), ("a|bc|", (0, 2)), ("a?b", (1, 2)), ("a*", (0, None)),
            ("a+b", (2, None)), ("a<3>", (3, 3)), ("a<2,>", (2, None)), ("(a|bc)<2,4>", (2, 8)), ("()*", (0, 0)),
            ("(|)+", (0, 0)), ("{as x:a}b*", (1, None)), ("a*|b", (0, None)), ("a<0>", (0, 0)), ("(a*)<0,0>", (0, 0)),
            ("(a*)<2,3>", (0, None)), ("(ab*)<2,3>", (2, None)), ("[]|ab", (2, 2)), ("[]*", (0, 0)), ("[]?a", (1, 1)),
            ("[]<0>b", (1, 1)), ("(a|[]b*)c", (2, 2)), ("(a<0>)*", (0, 0)), ("(a|b<3>)<9>", (9, 27)),
        ):
            self.assertEqual(length_bounds(read_pattern(text)), bounds, text)

    def test_trees_that_accept_no_text(self):
        for tree in ALWAYS_DEAD:
            self.assertIsNone(length_bounds(tree), tree)

    def test_a_dead_body_that_is_not_needed(self):
        self.assertEqual(length_bounds(repeat(NOTHING, 0, None)), (0, 0))
        self.assertEqual(length_bounds(repeat(NOTHING, 0, 0)), (0, 0))
        self.assertEqual(length_bounds(alt(NOTHING, repeat(A, 1, None))), (1, None))
        self.assertIsNone(length_bounds(seq(repeat(A, 0, None), NOTHING)))

    def test_by_definition(self):
        growing = Growing(7, kinds=())
        tested = 0
        while tested < 300:
            tree = growing.tree(5)
            if weight(tree) > 20:
                continue
            tested += 1
            found = lengths(tree, 45)
            bounds = None
            if found:
                # A tree with a finite longest text has none that is longer than its weight.
                bounds = (min(found), None if max(found) > 20 else max(found))
            self.assertEqual(length_bounds(tree), bounds, tree)


class SignsOfTextsTest(unittest.TestCase):
    def test_examples(self):
        self.assertEqual(first_signs(read_pattern("a?b")), "ab")
        self.assertEqual(needed_signs(read_pattern("a+b|ba?")), "b")

    def test_first_signs(self):
        for text, signs in (
            ("", ""), ("a", "a"), ("[ab]c", "ab"), ("b|a", "ab"), ("a*b*c", "abc"), ("a+b", "a"), ("()b", "b"),
            ("a<0>b", "b"), ("a<2>b", "a"), ("(a?b?)<2>c", "abc"), ("{as x:a?}b", "ab"), ("a*[]", ""), ("a[]|b", "b"),
            ("[]*a", "a"), ("[]?[]?", ""), ("(a[])?b", "b"), ("(a|b[])c", "a"), ("z|y|\t|\\~", "\tyz~"), ("(|c)(|a)b", "abc"),
            ("(a<0>)+b", "b"), ("a?()*", "a"), ("(a|b)<0>", ""), ("[^]", SIGNS), (".", SIGNS.replace("\n", "")),
            ("(b?[])?a", "a"), ("(b[]|)a", "a"),
        ):
            self.assertEqual(first_signs(read_pattern(text)), signs, text)

    def test_needed_signs(self):
        for text, signs in (
            ("", ""), ("a", "a"), ("[ab]", ""), ("ba", "ab"), ("ab|ca", "a"), ("a|b", ""), ("a*", ""), ("a+", "a"),
            ("a?b", "b"), ("a<0>", ""), ("a<0,3>", ""), ("(ab|cb)<2,>", "b"), ("{as x:a}", "a"), ("[]|ab", "ab"),
            ("[]*a", "a"), ("([]|a)b", "ab"), ("ab|[]c|bc", "b"), ("(ab|)c", "c"), ("a[ab]", "a"), ("[]*", ""),
            ("[]<0>", ""), ("([ab]|a)c", "c"), ("ab|a[]c", "ab"), ("[^]", ""), ("(a|b)<3>c", "c"),
        ):
            self.assertEqual(needed_signs(read_pattern(text)), signs, text)

    def test_trees_that_accept_no_text(self):
        for tree in ALWAYS_DEAD:
            self.assertEqual(first_signs(tree), "", tree)
            self.assertEqual(needed_signs(tree), SIGNS, tree)

    def test_by_definition(self):
        growing = Growing(8, signs="abc", kinds=())
        tested = 0
        while tested < 300:
            tree = growing.tree(5)
            if weight(tree) > 6:
                continue
            tested += 1
            # Among the shortest texts with and without a sign there are some of at most this length.
            texts = accepted(tree, weight(tree) + 1)
            firsts = "".join(sorted({text[0] for text in texts if text}))
            needed = "".join(sign for sign in SIGNS if all(sign in text for text in texts))
            self.assertEqual(first_signs(tree), firsts, tree)
            self.assertEqual(needed_signs(tree), needed, tree)


class NotPlainTest(unittest.TestCase):
    def test_other_trees_are_refused(self):
        trees = [edge(kind) for kind in EDGE_KINDS] + [
            look(A), look(A, "behind", False), seq(A, edge("start")), alt(A, repeat(look(EMPTY), 0, 1)),
            seq(group("x", A), same("x")), group("x", alt(A, same("x"))), seq(group("x", look(A)), same("x")),
        ]
        for tree in trees:
            for measure in (length_bounds, first_signs, needed_signs):
                self.assertRaises(NotPlain, measure, tree)

    def test_before_anything_else(self):
        # Each of these measures could be told without the part that is not plain.
        hidden = edge("start")
        for tree in (
            seq(NOTHING, hidden), seq(A, hidden), alt(repeat(A, 0, None), hidden), repeat(hidden, 0, 0),
            seq(NOTHING, group("x", look(A)), same("x")), alt(EMPTY, group("x", repeat(same("x"), 0, 0))),
        ):
            for measure in (length_bounds, first_signs, needed_signs):
                self.assertRaises(NotPlain, measure, tree)

    def test_the_other_measures_take_every_tree(self):
        tree = seq(group("x", look(A)), same("x"), edge("end"))
        self.assertEqual([size(tree), depth(tree), weight(tree)], [6, 4, 1])


if __name__ == "__main__":
    unittest.main()
