"""Least texts that trees accept: points [5], [14], [46] and [49]."""

import unittest

from surespan.acceptance import least_accepted, least_answered, least_refused, outside, shared
from surespan.alphabet import SIGNS, texts_up_to
from surespan.errors import NotRegular
from surespan.meaning import accepts, first_answer
from surespan.reading import read_pattern
from tests.samples import A, B, group, look, pairs_of_trees, repeat, same, seq, telling_signs


def told(call, *patterns):
    return call(*[read_pattern(pattern) for pattern in patterns])


class LeastTextTest(unittest.TestCase):
    def check(self, call, trees, signs, length, fits):
        """Compare with the least of all texts over these signs up to a length that fits."""
        found = call(*trees)
        expected = next((text for text in texts_up_to(signs, length) if fits(text)), None)
        if found is not None and len(found) > length:
            self.assertIsNone(expected, (call, trees, found))
            self.assertTrue(fits(found), (call, trees, found))
        else:
            self.assertEqual(found, expected, (call, trees))
        return found

    def check_all(self, tree, other, signs, length):
        """Check all five functions on these trees; return how often there was no text."""
        return [
            self.check(least_accepted, [tree], signs, length, lambda text: accepts(tree, text)),
            self.check(least_refused, [tree], signs, length, lambda text: not accepts(tree, text)),
            self.check(least_answered, [tree], signs, length, lambda text: first_answer(tree, text) is not None),
            self.check(outside, [tree, other], signs, length, lambda text: accepts(tree, text) and not accepts(other, text)),
            self.check(shared, [tree, other], signs, length, lambda text: accepts(tree, text) and accepts(other, text)),
        ].count(None)

    def test_examples(self):
        self.assertEqual(told(least_refused, "a?|b"), "\t")
        self.assertEqual(told(outside, "[ab]*", "a*b*"), "ba")
        self.assertEqual(told(shared, "a*b", "ab*"), "ab")

    def test_the_empty_text(self):
        for pattern in ("", "a*", "a?", "{start}{end}", "(a|)*", "{not ahead:[^]}", "{no word edge}"):
            self.assertEqual(told(least_accepted, pattern), "")
            self.assertEqual(told(least_answered, pattern), "")
        for pattern in ("a", "[]", "a+", "{word edge}a", "{ahead:a}"):
            self.assertEqual(told(least_refused, pattern), "")
        self.assertEqual(told(shared, "a*", "b*"), "")
        self.assertEqual(told(outside, "a*", "a+"), "")

    def test_the_tab_and_the_newline(self):
        self.assertEqual(told(least_refused, ""), "\t")
        self.assertEqual(told(least_refused, "\t?"), "\n")
        self.assertEqual(told(least_refused, "[\\t\\n]?"), " ")
        self.assertEqual(told(least_refused, ".*"), "\n")
        self.assertEqual(told(least_accepted, "[^]"), "\t")
        self.assertEqual(told(least_accepted, "[^\\t]<2>"), "\n\n")
        self.assertEqual(told(least_accepted, "b|\n|a|[~x]".replace("~", "y")), "\n")
        self.assertEqual(told(least_answered, "{behind:\n}{end}"), "\n")
        self.assertEqual(told(least_accepted, "[^]{line start}[^]"), "\n\t")
        self.assertEqual(told(outside, "[^]*", "\t*"), "\n")

    def test_shorter_texts_come_first(self):
        self.assertEqual(told(least_accepted, "zz|aaa"), "zz")
        self.assertEqual(told(least_accepted, "zz|az|bb"), "az")
        self.assertEqual(told(least_answered, "aaa|zz"), "zz")
        self.assertEqual(told(shared, "(a<4>)*a|zz", "(a<3>)*|zz"), "zz")
        self.assertEqual(told(shared, "(a<4>)*a", "(a<3>)+"), "a" * 9)

    def test_there_is_no_such_text(self):
        for pattern in ("[]", "a[]", "[]+", "a{start}", "{end}a", "{not ahead:}", "{word edge}{no word edge}", "{behind:a}b{start}"):
            self.assertIsNone(told(least_accepted, pattern), pattern)
            self.assertIsNone(told(outside, pattern, "[]"))
            self.assertIsNone(told(shared, pattern, "[^]*"))
        for pattern in ("[^]*", "(.|\n)*", "[^]+|", "({ahead:a}a|[^])*", "{start}[^]*{end}", ".*(\n.*)*", "()|[^][^]*"):
            self.assertIsNone(told(least_refused, pattern), pattern)
            self.assertIsNone(told(outside, "a", pattern))
        self.assertIsNone(told(least_answered, "[]"))
        self.assertIsNone(told(least_answered, "a{start}"))
        self.assertIsNone(told(shared, "a", "b"))
        self.assertIsNone(told(outside, "(a|b)*a", "[ab]*a"))

    def test_edges_and_looks(self):
        self.assertEqual(told(least_accepted, "{word edge}[^]{word edge}"), "0")
        self.assertEqual(told(least_accepted, "[^]{word edge}[^]"), "\t0")
        self.assertEqual(told(least_accepted, "{ahead:.*b}{ahead:.*c}[a-c]*"), "bc")
        self.assertEqual(told(least_accepted, "[a-c]*{behind:cb*}"), "c")
        self.assertEqual(told(least_accepted, "{not ahead:a|b}[a-c]{not behind:c}|dd"), "dd")
        self.assertEqual(told(least_refused, "{not ahead:.*ba}[ab]*|[^]*[^ab][^]*"), "ba")
        self.assertEqual(told(least_refused, "({not behind:aa}[^])*"), "aa\t")
        self.assertEqual(told(outside, "[ab]*", "({not behind:ab}[ab])*"), "aba")
        self.assertEqual(told(shared, "{ahead:.*a.<3>b}[ab]*", "b[ab]*"), "ba" + "aaa" + "b")

    def test_an_answer_may_begin_at_a_later_index(self):
        self.assertEqual(told(least_answered, "{behind:a}b"), "ab")
        self.assertEqual(told(least_answered, "{not start}".replace("not start", "word edge") + "{behind:[^]}"), "0")
        self.assertEqual(told(least_answered, "{behind:{start}b}a"), "ba")
        self.assertEqual(told(least_answered, "{behind:[^]<3>}"), "\t\t\t")
        self.assertEqual(told(least_answered, "a{ahead:b}"), "ab")
        # The tree accepts none of these texts as a whole.
        for pattern in ("{behind:a}b", "a{ahead:b}", "{behind:[^]}"):
            self.assertIsNone(told(least_accepted, pattern))

    def test_both_orders(self):
        self.assertEqual([told(outside, "a*", "a?b*"), told(outside, "a?b*", "a*")], ["aa", "b"])
        self.assertEqual([told(outside, "a", "a?"), told(outside, "a?", "a")], [None, ""])
        for tree, other in pairs_of_trees(490, 40):
            self.assertEqual(shared(tree, other), shared(other, tree))

    def test_many_trees(self):
        missing = 0
        for kinds, seed, count in ((("look", "edge"), 491, 150), ((), 492, 60), (("edge",), 493, 60)):
            for tree, other in pairs_of_trees(seed, count, kinds):
                signs = telling_signs(tree, other)
                missing += self.check_all(tree, other, signs, 3 if len(signs) > 4 else 4)
        self.assertTrue(200 < missing < 600, missing)

    def test_over_all_signs(self):
        for tree, other in pairs_of_trees(494, 40):
            self.check_all(tree, other, SIGNS, 1)

    def test_not_regular(self):
        for tree in (same("x"), seq(group("x", A), same("x")), seq(group("x", A), look(B), repeat(same("x"), 0, 0))):
            for call in (least_accepted, least_refused, least_answered):
                with self.assertRaises(NotRegular):
                    call(tree)
            for call in (outside, shared):
                for pair in ((tree, A), (A, tree), (("set", ""), tree), (tree, tree)):
                    with self.assertRaises(NotRegular):
                        call(*pair)


if __name__ == "__main__":
    unittest.main()
