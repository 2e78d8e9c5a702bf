"""Partings: points [14] and [46] to [48]."""

import unittest

from surespan.alphabet import SIGNS, texts_up_to
from surespan.errors import NotRegular
from surespan.meaning import accepts, first_answer
from surespan.partings import parting, parting_from
from surespan.reading import read_pattern
from tests.samples import A, B, alt, edge, group, look, pairs_of_trees, repeat, same, seq, telling_signs

LEVELS = ("whole", "span", "answer")


def seen(tree, text, level, start=0):
    """Return what a level compares on a text."""
    if level == "whole":
        return accepts(tree, text)
    found = first_answer(tree, text, start)
    return found if found is None or level == "answer" else found[:2]


def part(first, second, level="answer"):
    return parting(read_pattern(first), read_pattern(second), level=level)


class PartingTest(unittest.TestCase):
    def check(self, tree, other, signs, length):
        """Compare with all texts over these signs up to a length; return the three results."""
        results = []
        for level in LEVELS:
            found = parting(tree, other, level=level)
            expected = None
            for text in texts_up_to(signs, length):
                if seen(tree, text, level) != seen(other, text, level):
                    expected = text
                    break
            if found is not None and len(found) > length:
                self.assertIsNone(expected, (tree, other, level, found))
                self.assertNotEqual(seen(tree, found, level), seen(other, found, level))
            else:
                self.assertEqual(found, expected, (tree, other, level))
            results.append(found)
        return results

    def test_examples(self):
        self.assertEqual(part("a*b", "a+b", "whole"), "b")
        self.assertEqual(part("a|ab", "ab|a"), "ab")
        self.assertEqual([part("{as x:a}?a", "a?{as x:a}", level) for level in ("span", "answer")], [None, "a"])

    def test_each_level(self):
        # Which texts are accepted, where the first answers are, and what they have captured.
        self.assertEqual([part("a|ab", "ab|a", level) for level in LEVELS], [None, "ab", "ab"])
        self.assertEqual([part("{as x:a}b?", "{as y:a}b?", level) for level in LEVELS], [None, None, "a"])
        self.assertEqual([part("a*~", "a*", level) for level in LEVELS], [None, "a", "a"])
        self.assertEqual([part("a", "a?", level) for level in LEVELS], ["", "", ""])
        self.assertEqual([part("a", "a|ba", level) for level in LEVELS], ["ba"] * 3)
        self.assertEqual([part(".*a", "a", level) for level in LEVELS], ["\ta"] * 3)
        self.assertEqual([part("a{end}", "a", level) for level in LEVELS], [None, "a\t", "a\t"])
        self.assertEqual(parting(read_pattern("a|ab"), read_pattern("ab|a"), level="answer"), "ab")

    def test_trees_that_never_differ(self):
        for first, second in (
            ("a", "a"), ("(a|b)*", "[ab]*"), ("a*a*", "a*"), ("(a*)*", "a*"), ("a{ahead:b}b", "ab"), ("a|a", "a"), ("[]", "a[]"),
            ("{start}{not behind:.|\n}a", "{start}a"), ("{word edge}{no word edge}", "[]"), ("{not ahead:}", "[]"), ("a?", "a|"),
            ("{as x:a}|{as y:a}", "{as x:a}"), ("({as x:a}|{as x:b})*", "{as x:[ab]}*"), ("{line start}", "{start}|{behind:\n}"),
            ("{ahead:{line end}}", "{line end}"), ("(a|b)*a(a|b)<3>", "[ab]*a[ab]<3>"), ("a*b", "a*~b"),
        ):
            self.assertEqual([part(first, second, level) for level in LEVELS], [None] * 3, (first, second))
            self.assertEqual([part(second, first, level) for level in LEVELS], [None] * 3, (first, second))
            self.assertIsNone(parting_from(read_pattern(first), read_pattern(second)))

    def test_the_least_text(self):
        # Shorter texts come first, and then the order of the signs, with the tab and the newline at its beginning.
        self.assertEqual(part("[]", "zz|aaa", "whole"), "zz")
        self.assertEqual(part("[]", "zz|az|za", "whole"), "az")
        self.assertEqual(part("[]", "[^]", "whole"), "\t")
        self.assertEqual(part("[]", "[^\\t]", "whole"), "\n")
        self.assertEqual(part("[]", "[^\\n\\t]", "whole"), " ")
        self.assertEqual(part("[]", "[^\\n\\t !-}]", "whole"), "~")
        self.assertEqual(part(".*", "[^]*", "whole"), "\n")
        self.assertEqual(part("[^]<3>", "[^]<3>|b[^]", "whole"), "b\t")
        self.assertEqual(part("(~|a)(~|a)".replace("~", "\\~"), "[a\\~]<2>|aa".replace("\\~", "~"), "whole"), None)
        self.assertEqual(part("a<9>", "a<8>", "whole"), "a" * 8)
        self.assertEqual(part("(a<9>)*", "(a<7>)*", "whole"), "a" * 7)
        self.assertEqual(part("(a<2>)*|(a<3>)*|(a<5>)*", "a*", "whole"), "a")
        self.assertEqual(part("(a<2>)*|(a<3>)*|a(a<6>)*", "a*", "whole"), "a" * 5)

    def test_trees_that_differ_only_in_a_row(self):
        for first, second, text in (
            ("({as x:a}|b)*", "({as x:a|b})*", "b"), ("{as x:a*}{as y:a*}", "{as x:a*~}{as y:a*}", "a"),
            ("{as x:a}{as y:b}?", "{as y:a}{as x:b}?", "a"), ("({as x:a}{as y:}|b)*", "({as x:a}|{as y:}b)*", "a"),
            ("{as x:{as y:a}b}", "{as x:a{as y:b}}", "ab"), ("({as x:a*}b)*", "(a*{as x:b})*", "b"),
            ("{as x:a}({as x:a}|b)*", "{as x:a}({as x:a}|{as y:b})*", "ab"), ("a{as x:}b", "{as x:}ab", "ab"),
            ("({as x:a}|{as x:ab}c)*", "({as x:a}|ab{as x:c})*", None), ("(a|{as x:ab})*c", "(a|ab|{as x:ab})*c", "abc"),
            ("{as x:a.*b}|.*", "a{as x:.*b}|.*", "ab"), ("({as x:a}b)*", "({as x:ab})*", "ab"),
            ("(({as x:a}|b)c)*", "(({as x:a}|b)c|{as y:d})*", "d"), ("{as x:a*?~}a*".replace("?~", ""), "{as x:a*~}a*", "a"),
        ):
            found = part(first, second)
            if text is not None:
                self.assertEqual(found, text, (first, second))
            self.check(read_pattern(first), read_pattern(second), "\tabcd", 4)

    def test_rows_that_are_set_again_later(self):
        # What differs for a while is the same in the end, unless the text ends before.
        self.assertIsNone(part("({as x:a}|{as x:a}{as y:})b{as x:c}", "{as y:a}?[]|ab{as x:c}", "span"))
        self.assertEqual(part("({as x:a})*{as x:b}", "(a)*{as x:b}"), None)
        self.assertEqual(part("({as x:a})*({as x:b})*", "(a)*({as x:b})*"), "a")
        self.assertEqual(part("{as x:a}<3>", "aa{as x:a}"), None)
        self.assertEqual(part("({as x:a}|{as y:b})*c{as x:}{as y:}", "[ab]*c{as y:}{as x:}"), None)
        self.assertEqual(part("({as x:a}|{as y:b})*c{as x:}", "[ab]*c{as x:}"), "bc")

    def test_trees_that_differ_only_in_the_order_of_two_ways(self):
        self.assertEqual([part("(a|ab)(c|bcd)?", "(ab|a)(bcd|c)?", level) for level in LEVELS], [None, "ab", "ab"])
        self.assertEqual([part("x(|y)", "x(y|)", level) for level in LEVELS], [None, "xy", "xy"])
        self.assertEqual([part("a+~b?", "a+b?", level) for level in LEVELS], [None, "aa", "aa"])
        self.assertEqual([part("abc|a|ab", "abc|ab|a", level) for level in LEVELS], [None, "ab", "ab"])
        self.assertEqual([part("(ab|a)(c|b)", "(a|ab)(c|b)", level) for level in LEVELS], [None, "abb", "abb"])

    def test_trees_that_differ_only_behind_a_look(self):
        self.assertEqual([part("a{ahead:b}", "a{ahead:b|c}", level) for level in LEVELS], [None, "ac", "ac"])
        self.assertEqual([part("{behind:b}a", "{behind:b|c}a", level) for level in LEVELS], [None, "ca", "ca"])
        self.assertEqual([part("a{not ahead:b}", "a", level) for level in LEVELS], [None, "ab", "ab"])
        self.assertEqual([part("{not behind:cb}a", "{not behind:b}a", level) for level in LEVELS], [None, "ba", "ba"])
        self.assertEqual([part("{ahead:.*c}.*", "{ahead:.*d}.*", level) for level in LEVELS], ["c"] * 3)
        self.assertEqual(part("a{ahead:.<5>b}", "a{ahead:.<5>c}", "span"), "a\t\t\t\t\tb")
        self.assertEqual(part("{ahead:ab*c}a", "{ahead:ab*d}a", "span"), "ac")
        self.assertEqual(part("({ahead:a*b}{as x:a}|a)*", "{as x:a}*"), "a")
        self.assertEqual(part("({ahead:a*b}{as x:a}|a)*b", "({as x:a})*b"), None)
        self.assertEqual(part("({ahead:.b}{as x:a}|a)*c", "({ahead:.d}{as x:a}|a)*c"), None)

    def test_trees_that_differ_at_an_edge(self):
        self.assertEqual([part("{start}a", "a", level) for level in LEVELS], [None, "\ta", "\ta"])
        self.assertEqual([part("{start}a", "{line start}a", level) for level in LEVELS], [None, "\na", "\na"])
        self.assertEqual([part("a{end}", "a{line end}", level) for level in LEVELS], [None, "a\n", "a\n"])
        self.assertEqual([part("a{word edge}", "a", level) for level in LEVELS], [None, "a0", "a0"])
        self.assertEqual([part("a{no word edge}", "[]", level) for level in LEVELS], [None, "a0", "a0"])
        self.assertEqual([part("{no word edge}", "{not ahead:{word}}{not behind:{word}}", level) for level in LEVELS],
                         [None, "00", "00"])
        self.assertEqual(part("{start}|a", "{start}|a|{end}"), None)
        self.assertEqual(part("{end}|{start}b", "{end}"), "b")

    def test_many_pairs(self):
        counts = {}
        for kinds, seed, count in ((("look", "edge"), 47, 170), ((), 48, 60), (("edge",), 49, 60)):
            for tree, other in pairs_of_trees(seed, count, kinds):
                signs = telling_signs(tree, other)
                for level, found in zip(LEVELS, self.check(tree, other, signs, 3 if len(signs) > 4 else 4)):
                    counts[level, found is None] = counts.get((level, found is None), 0) + 1
        self.assertTrue(len(counts) == 6 and min(counts.values()) > 50, counts)

    def test_over_all_signs(self):
        for tree, other in pairs_of_trees(50, 40):
            self.check(tree, other, SIGNS, 1)

    def test_both_orders(self):
        for tree, other in pairs_of_trees(51, 60):
            for level in LEVELS:
                self.assertEqual(parting(tree, other, level=level), parting(other, tree, level=level))

    def test_not_regular(self):
        for tree in (same("x"), seq(group("x", A), same("x")), seq(group("x", A), look(B), repeat(same("x"), 0, 0))):
            for pair in ((tree, A), (A, tree), (tree, tree)):
                for level in LEVELS:
                    with self.assertRaises(NotRegular):
                        parting(*pair, level=level)
                with self.assertRaises(NotRegular):
                    parting(*pair)
                with self.assertRaises(NotRegular):
                    parting_from(*pair)


class PartingFromTest(unittest.TestCase):
    def check(self, tree, other, signs, length):
        found = parting_from(tree, other)
        expected = None
        for text in texts_up_to(signs, length):
            differing = [
                start for start in range(len(text) + 2)
                if seen(tree, text, "answer", start) != seen(other, text, "answer", start)
            ]
            if differing:
                expected = (text, differing[0])
                break
        if found is not None and len(found[0]) > length:
            self.assertIsNone(expected)
            self.assertNotEqual(first_answer(tree, *found), first_answer(other, *found))
        else:
            self.assertEqual(found, expected, (tree, other))
        return found

    def test_examples(self):
        self.assertEqual(parting_from(read_pattern("{start}a"), read_pattern("a")), ("\ta", 0))
        self.assertEqual(parting_from(read_pattern("a"), read_pattern("b")), ("a", 0))
        self.assertIsNone(parting_from(read_pattern("a|b"), read_pattern("[ab]")))

    def test_a_start_index_that_is_not_0(self):
        # From the start index 0 there is an answer of both trees that hides the difference.
        for first, second, found in (
            ("{start}|a", "{start}|b", ("\ta", 1)), ("{start}|a", "{start}|ba|a", ("\tba", 1)),
            ("{start}[^]|{end}", "{start}[^]|{end}|x", ("\tx", 1)), ("{start}|x{as y:}", "{start}|x", ("\tx", 1)),
            ("{start}(.|\n)*|a", "{start}(.|\n)*|a|ab", None), ("a|{behind:aa}b", "a|{behind:a}b", ("ab", 1)),
        ):
            tree, other = read_pattern(first), read_pattern(second)
            self.assertEqual(self.check(tree, other, telling_signs(tree, other), 3), found, (first, second))
            self.assertIsNone(parting(tree, other))

    def test_the_least_start_index(self):
        tree, other = read_pattern("{behind:aa}{as x:b}|a"), read_pattern("{behind:aa}b|a")
        self.assertEqual(parting_from(tree, other), ("aab", 2))
        tree, other = read_pattern("{end}"), read_pattern("{end}{behind:a}")
        self.assertEqual(parting_from(tree, other), ("", 0))

    def test_many_pairs(self):
        for kinds, seed, count in ((("look", "edge"), 148, 120), ((), 149, 50), (("edge",), 150, 50)):
            for tree, other in pairs_of_trees(seed, count, kinds):
                self.check(tree, other, telling_signs(tree, other), 3)

    def test_many_pairs_that_agree_at_the_start(self):
        later = 0
        for tree, other in pairs_of_trees(151, 120):
            first, second = alt(edge("start"), tree), alt(edge("start"), other)
            found = self.check(first, second, telling_signs(tree, other), 3)
            self.assertTrue(found is None or found[1] > 0)
            later += found is not None
        self.assertGreater(later, 30)


if __name__ == "__main__":
    unittest.main()
