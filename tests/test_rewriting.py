"""Simplified trees: points [12], [14], [26], [27], [62] and [63] (surespan.rewriting)."""

import random
import unittest

from surespan.alphabet import texts_up_to
from surespan.errors import NotRegular
from surespan.meaning import first_answer, outcomes
from surespan.measures import size
from surespan.reading import read_pattern
from surespan.rewriting import simplify, simplify_steps
from surespan.trees import check_tree, is_regular, node_at, paths
from surespan.writing import write_pattern
from tests import reference
from tests.samples import (
    A, B, C, EMPTY, NOTHING, Dense, Growing, alt, dense_cases, edge, group, look, repeat, same, seq, trees_of_each_form,
)


def all_nodes(tree):
    return [node_at(tree, path) for path in paths(tree)]


def full_sets(tree):
    """Return the number of the set nodes whose set is not empty."""
    return sum(node[0] == "set" and node[1] != "" for node in all_nodes(tree))


def bulk(tree):
    return size(tree) + 2 * full_sets(tree)


def first_part(tree):
    """Return the set with which a branch begins, or None."""
    first = tree[1][0] if tree[0] == "seq" else tree
    return first if first[0] == "set" else None


class RewritingCase(unittest.TestCase):
    def check_properties(self, tree):
        """Check the properties that point [62] lists."""
        for node in all_nodes(tree):
            kind = node[0]
            self.assertTrue(node != NOTHING or tree == NOTHING)
            if kind == "seq":
                self.assertFalse([part for part in node[1] if part[0] in ("seq", "empty")])
                for part, other in zip(node[1], node[1][1:]):
                    self.assertFalse(part == other and part[0] in ("edge", "look"))
            elif kind == "alt":
                self.assertEqual(len(set(node[1])), len(node[1]))
                self.assertFalse([branch for branch in node[1] if branch[0] == "alt"])
                for branch, other in zip(node[1], node[1][1:]):
                    self.assertFalse(branch[0] == other[0] == "set")
                    self.assertTrue(first_part(branch) is None or first_part(branch) != first_part(other))
            elif kind == "repeat":
                self.assertNotIn(node[2:4], [(1, 1), (0, 0)])
                self.assertNotIn(node[1][0], ("empty", "edge", "look"))
            elif kind == "look":
                self.assertNotEqual(node[3], EMPTY)

    def check_steps(self, tree):
        """Check all that points [62] and [63] say of a tree, but for the outcomes; return the list of the trees."""
        steps = simplify_steps(tree)
        self.assertIs(type(steps), list)
        result = simplify(tree)
        self.assertEqual([steps[0], steps[-1]], [tree, result])
        self.check_properties(result)
        self.assertEqual([simplify(result), simplify_steps(result)], [result, [result]])
        self.assertLessEqual(bulk(result), bulk(tree))
        for before, after in zip(steps, steps[1:]):
            check_tree(after)
            self.assertTrue(is_regular(after))
            self.assertLess((full_sets(after), size(after)), (full_sets(before), size(before)))
        return steps

    def check_outcomes(self, trees, text, index, row):
        """Check that trees have the same outcomes."""
        expected = outcomes(trees[0], text, index, row)
        for tree in trees[1:]:
            self.assertEqual(outcomes(tree, text, index, row), expected, (trees[0], tree, text, index))

    def check_pattern(self, pattern, expected):
        tree = read_pattern(pattern)
        steps = self.check_steps(tree)
        self.assertEqual(write_pattern(steps[-1]), expected, pattern)
        for text in list(texts_up_to("abc", 3)) + ["a\nb", "aaaa"]:
            for index in range(len(text) + 1):
                self.check_outcomes(steps, text, index, (("x", 0, 0), ("z", 0, len(text))))


class SimplifyTest(RewritingCase):
    def test_example(self):
        self.assertEqual(outcomes(simplify(read_pattern("(a|b)|b|()")), "b"), [(1, ()), (0, ())])

    def test_the_empty_set(self):
        for pattern, expected in (
            ("[]", "[]"), ("a[]b", "[]"), ("[]|a", "a"), ("a|[]|b*", "a|b*"), ("[]|[]", "[]"), ("[]*", ""), ("[]?~", ""), ("[]+", "[]"),
            ("[]<2,5>", "[]"), ("[]<0>", ""), ("{as x:[]}", "[]"), ("{as x:a[]}|b", "b"), ("{ahead:[]}a", "[]"), ("{not ahead:[]}a", "a"),
            ("{behind:a[]}|b", "b"), ("{not behind:[]|b[]}", ""), ("(a|b[])c", "ac"), ("((([])))*~a", "a"), ("(a[]|)<3>", ""),
            ("({as x:[]}|a)*", "a*"),
        ):
            self.check_pattern(pattern, expected)

    def test_sequences(self):
        for pattern, expected in (
            ("(ab)c", "abc"), ("a(b(ca))", "abca"), ("a()b", "ab"), ("()()", ""), ("()a", "a"), ("(()())a", "a"), ("a(b())", "ab"),
            ("{start}{start}a", "{start}a"), ("{start}({start}{start})", "{start}"), ("{end}{line end}{end}", "{end}{line end}{end}"),
            ("{ahead:a}{ahead:a}.", "{ahead:a}."), ("{ahead:a}(){ahead:a}", "{ahead:a}"), ("{ahead:a}{behind:a}", "{ahead:a}{behind:a}"),
            ("{ahead:a}{not ahead:a}", "{ahead:a}{not ahead:a}"), ("aa", "aa"), ("a*a*", "a*a*"), ("{as x:ab}c", "{as x:ab}c"),
            ("{ahead:a}{ahead:(a)}{ahead:a<1>}", "{ahead:a}"), ("({word edge}a)({word edge}b)", "{word edge}a{word edge}b"),
        ):
            self.check_pattern(pattern, expected)

    def test_choices(self):
        for pattern, expected in (
            ("(a*|b*)|c*", "a*|b*|c*"), ("a*|(b*|(c*|a))", "a*|b*|c*|a"), ("a*|b*|a*", "a*|b*"), ("a|a", "a"), ("a|b", "[ab]"), ("a|b|c", "[a-c]"),
            ("a|b*|a", "a|b*"), ("a|b*|c", "a|b*|c"), ("[ab]|[bc]|d*", "[a-c]|d*"), ("|", ""), ("a||b", "a||b"), ("(|)|a*", "|a*"),
            ("b|[ab]|a*", "[ab]|a*"), ("{as x:a}|{as x:a}", "{as x:a}"), ("{as x:a}|{as y:a}", "{as x:a}|{as y:a}"), ("(a|b)|b|()", "[ab]|"),
            ("a*|(b|c)", "a*|[bc]"), ("a*b|(a*b)", "a*b"), ("{start}|{start}a", "{start}|{start}a"),
        ):
            self.check_pattern(pattern, expected)

    def test_common_beginnings(self):
        for pattern, expected in (
            ("ab|ac", "a[bc]"), ("a|ab", "a(|b)"), ("ab|a", "a(b|)"), ("abc|ab", "ab(c|)"), ("ab*|ac*|ad*", "a(b*|c*|d*)"), ("ab|c*|ac", "ab|c*|ac"),
            ("[ab]c|[ab]d|a", "[ab][cd]|a"), ("ab|[ab]c", "ab|[ab]c"), ("{as x:a}b|{as x:a}c", "{as x:a}b|{as x:a}c"), ("a|ab|abc", "a(|b(|c))"),
            ("ab|ab", "ab"), ("a(b|c*)|ad*", "a(b|c*|d*)"), ("ab|a(c|d*)", "a([bc]|d*)"), ("x|ab|ac", "x|a[bc]"), ("b|bc|a", "b(|c)|a"),
            ("a|b|bc", "[ab]|bc"), ("b*|a*b|a*c", "b*|a*b|a*c"), ("{ahead:ab|ac}a", "{ahead:a[bc]}a"), ("(ab|ac)*", "(a[bc])*"),
        ):
            self.check_pattern(pattern, expected)

    def test_repeats(self):
        for pattern, expected in (
            ("a<1>", "a"), ("a<1>~", "a"), ("a<0>", ""), ("{as x:a}<0>", ""), ("()*", ""), ("()<3>", ""), ("{start}*", ""), ("{start}+~", "{start}"),
            ("{start}<2,5>a", "{start}a"), ("{ahead:a}?", ""), ("{ahead:a}<1,>", "{ahead:a}"), ("{not behind:a}<0,3>b", "b"), ("a<0,1>", "a?"),
            ("(a<1>)*", "a*"), ("(a*)*", "(a*)*"), ("({start}|)*", "({start}|)*"), ("({start}{end})*", "({start}{end})*"), ("(ab)<1>c", "abc"),
            ("({start}{start})<2>", "{start}"), ("{as x:}*", "{as x:}*"), ("(a<0>)*b", "b"), ("((a<0>|[])<2>)+", ""), ("a<1>|b<1>", "[ab]"),
        ):
            self.check_pattern(pattern, expected)

    def test_looks(self):
        for pattern, expected in (
            ("{ahead:}a", "a"), ("{behind:}a", "a"), ("{not ahead:}a", "[]"), ("{not behind:}|a", "a"), ("{ahead:()*}a", "a"), ("{behind:a<0>}", ""),
            ("{not ahead:[]*}|a", "a"), ("{ahead:a|b}c", "{ahead:[ab]}c"), ("{behind:{start}{start}}", "{behind:{start}}"), ("{ahead:a*}", "{ahead:a*}"),
        ):
            self.check_pattern(pattern, expected)

    def test_groups_that_may_be_set_stay(self):
        for pattern in ("{as x:}", "{as x:a}*", "{as x:{as y:a}|}", "({as x:a}|{as y:})b"):
            self.assertEqual(write_pattern(simplify(read_pattern(pattern))), pattern)

    def test_trees_that_are_simple(self):
        for pattern in ("", "a", "a*b|c", "({as x:a}|{ahead:b})*", "a|b*|c", "{start}a{end}", "(a*)<2>", "(|a)*b"):
            tree = read_pattern(pattern)
            self.assertEqual(simplify_steps(tree), [tree])
            self.assertEqual(simplify(tree), tree)

    def test_the_bulk(self):
        # A sequence and an empty branch are added for each set that is left out, and no more.
        for branches in ((A, seq(A, B, C)), (seq(A, B, C), seq(A, C, B)), (A, seq(A, repeat(B, 0, None), C), seq(A, C))):
            self.check_steps(alt(*branches))
        tree = alt(A, seq(A, B, C), repeat(A, 0, None))
        self.assertEqual([bulk(tree), bulk(simplify(tree)), size(simplify(tree)) - size(tree)], [18, 18, 2])


class ManyTreesTest(RewritingCase):
    def test_trees_of_each_form(self):
        for tree in trees_of_each_form():
            if is_regular(tree):
                steps = self.check_steps(tree)
                for text in ("", "a", "ab", "b\na", "aaaaaaaaa"):
                    for index in range(len(text) + 1):
                        self.check_outcomes(steps, text, index, ())

    def test_random_trees(self):
        for kinds in (("look", "edge"), ()):
            for tree, text, index in dense_cases(620, 700, kinds=kinds):
                steps = self.check_steps(tree)
                for row in ((), (("x", 0, len(text)),), (("a", 0, index), ("y", index, index))):
                    self.check_outcomes([steps[0], steps[len(steps) // 2], steps[-1]], text, index, row)
                self.assertEqual(first_answer(steps[-1], text), first_answer(tree, text))

    def test_every_step_by_the_reference(self):
        for tree, text, index in dense_cases(621, 300, kinds=("look", "edge"), depths=(3, 4, 4)):
            row = (("x", 0, index), ("y", 0, 0))
            lists = [reference.few_ways(step, text, index, row) for step in self.check_steps(tree)]
            if None not in lists:
                found = [list(dict.fromkeys((end, after) for end, after, _ in ways)) for ways in lists]
                self.assertTrue(all(pairs == found[0] for pairs in found), tree)

    def test_wide_choices(self):
        chance = random.Random(622)
        for _ in range(150):
            branches = [
                seq(*[chance.choice([A, B, repeat(A, 0, 1), EMPTY, NOTHING, group("x", B)]) for _ in range(chance.choice((2, 2, 3)))])
                if chance.random() < 0.7 else chance.choice([A, B, EMPTY, alt(A, seq(B, A))])
                for _ in range(chance.choice((2, 3, 5, 8)))
            ]
            steps = self.check_steps(("alt", tuple(branches)))
            for text in ("", "aab", "ba", "abab"):
                self.check_outcomes([steps[0], steps[-1]], text, 0, ())

    def test_trees_at_the_bounds(self):
        growing = Growing(623, signs="abc", kinds=("look", "edge"))
        for tree in (
            ("alt", tuple(seq(A, B) for _ in range(19))), ("alt", tuple(("set", sign) for sign in "abcdefghijklmnopqrstuvwxyz" * 2)),
            ("seq", (EMPTY,) * 59), repeat(("seq", (edge("start"),) * 40), 1, 1), look(("alt", (EMPTY,) * 50), "behind"),
            ("alt", tuple(("seq", (A,) * count) for count in range(2, 10))), growing.tree(12),
        ):
            steps = self.check_steps(tree)
            self.check_outcomes([steps[0], steps[-1]], "aaaabbab", 0, ())

    def test_not_regular(self):
        for tree in (same("x"), seq(group("x", A), same("x")), seq(group("x", A), look(B), repeat(same("x"), 0, 0))):
            for call in (simplify, simplify_steps):
                with self.assertRaises(NotRegular):
                    call(tree)


if __name__ == "__main__":
    unittest.main()
