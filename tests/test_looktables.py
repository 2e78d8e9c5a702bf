"""Look tables: point [26], for looks."""

import unittest

from surespan.looktables import look_table
from surespan.reading import read_pattern
from tests import reference
from tests.samples import NOTHING, Dense


class LookTableTest(unittest.TestCase):
    def check(self, tree, text):
        for side in ("ahead", "behind"):
            found = look_table(side, tree, text)
            self.assertIs(type(found), list)
            self.assertEqual(found, reference.looks_there(side, tree, text), (side, tree, text))
            self.assertTrue(all(value is True or value is False for value in found))

    def test_example(self):
        self.assertEqual(look_table("behind", read_pattern("ab"), "abab"), [False, False, True, False, True])

    def test_both_sides_at_each_index(self):
        for pattern in ("a", "ab", "ab|b", "a*b", "a<2>", "[^a]+", "(ab)*c", "a?b?c", "[]", "[]|a", "(a|ab)(c|bcd)"):
            for text in ("", "a", "b", "ab", "abab", "aabbcab", "abcd"):
                self.check(read_pattern(pattern), text)

    def test_the_two_sides(self):
        self.assertEqual(look_table("ahead", read_pattern("ab"), "abab"), [True, False, True, False, False])
        self.assertEqual(look_table("ahead", read_pattern("a"), "ba"), [False, True, False])
        self.assertEqual(look_table("behind", read_pattern("a"), "ba"), [False, False, True])
        self.assertEqual(look_table("ahead", NOTHING, "ab"), [False] * 3)
        self.assertEqual(look_table("behind", NOTHING, ""), [False])

    def test_a_way_may_begin_anywhere_before_the_index(self):
        self.assertEqual(look_table("behind", read_pattern("a.*"), "bbabb"), [False, False, False, True, True, True])
        self.assertEqual(look_table("behind", read_pattern("a.<2>"), "aabbb"), [False, False, False, True, True, False])
        self.assertEqual(look_table("ahead", read_pattern(".*a"), "bbabb"), [True, True, True, False, False, False])

    def test_bodies_with_edges(self):
        for pattern in (
            "{start}", "{end}", "{line start}", "{line end}", "{word edge}", "{no word edge}", "{start}a", "a{end}",
            "{line start}.*", ".*{line end}", "{word edge}a+{word edge}", "{no word edge}.{no word edge}", "({end}|a)+b?",
            "{start}{end}", "a*{start}", "{end}a", "(\n{line start}|{line end})*a",
        ):
            for text in ("", "a", "\n", "a\na", "ab a", " \na\n", "a a\n"):
                self.check(read_pattern(pattern), text)

    def test_bodies_with_empty_ways(self):
        for pattern in ("()", "a?", "a*", "(a*)*", "(|a)", "a?~", "(a?b?)<2>", "[]*", "({start}|a)*"):
            for text in ("", "a", "bab"):
                self.check(read_pattern(pattern), text)
        for pattern in ("()", "a*", "[]?"):
            self.assertEqual(look_table("ahead", read_pattern(pattern), "bb"), [True] * 3)
            self.assertEqual(look_table("behind", read_pattern(pattern), "bb"), [True] * 3)

    def test_in_the_empty_text(self):
        for side in ("ahead", "behind"):
            self.assertEqual(look_table(side, read_pattern("{start}{end}{no word edge}"), ""), [True])
            self.assertEqual(look_table(side, read_pattern("a"), ""), [False])
            self.assertEqual(look_table(side, read_pattern("{word edge}"), ""), [False])

    def test_against_the_document_word_for_word(self):
        growing = Dense(26, kinds=("edge",))
        for _ in range(1500):
            tree = growing.grow(growing.chance.choice((2, 3, 4)), True)
            text = "".join(growing.chance.choice("aab\n ") for _ in range(growing.chance.randrange(6)))
            if all(reference.few_ways(tree, text, index) is not None for index in range(len(text) + 1)):
                self.check(tree, text)


if __name__ == "__main__":
    unittest.main()
