"""Signs, ranks and the order of texts: points [3], [5], [6] and [7]."""

import itertools
import types
import unittest

from surespan.alphabet import (
    BLANKS, DIGITS, LETTERS, SIGNS, WORD_SIGNS, is_set_text, next_text, precedes, rank, texts_up_to,
)

# The 96 signs, made from their codes and not from the program's own text.
ALL = "\t\n" + "".join(chr(code) for code in range(32, 127) if chr(code) != "%")


def by_definition(text):
    """Return a key that sorts texts as point [5] says."""
    return (len(text), [ALL.index(sign) for sign in text])


class SignsTest(unittest.TestCase):
    def test_signs_are_the_96_signs_in_ascending_order(self):
        self.assertEqual(SIGNS, ALL)
        self.assertEqual(len(SIGNS), 96)
        self.assertNotIn("%", SIGNS)

    def test_kinds_of_signs(self):
        self.assertEqual(DIGITS, "0123456789")
        self.assertEqual(LETTERS, "".join(s for s in ALL if s.isalpha()))
        self.assertEqual(len(LETTERS), 52)
        self.assertEqual(BLANKS, "\t\n ")
        self.assertEqual(WORD_SIGNS, "".join(s for s in ALL if s.isalnum() or s == "_"))
        self.assertEqual(len(WORD_SIGNS), 63)

    def test_kinds_of_signs_are_set_texts(self):
        for signs in (SIGNS, DIGITS, LETTERS, BLANKS, WORD_SIGNS):
            self.assertTrue(is_set_text(signs))

    def test_set_texts(self):
        for signs in ("", "a", "ab", "\t\n ", "$&", "Z_a"):
            self.assertTrue(is_set_text(signs), signs)
        for signs in ("aa", "ba", "\n\t", "abb", "acb", "&$"):
            self.assertFalse(is_set_text(signs), signs)


class RankTest(unittest.TestCase):
    def test_example(self):
        self.assertEqual(rank("&"), 7)

    def test_every_sign(self):
        self.assertEqual([rank(sign) for sign in ALL], list(range(96)))

    def test_ends_and_neighbours(self):
        self.assertEqual([rank("\t"), rank("\n"), rank(" "), rank("~")], [0, 1, 2, 95])
        self.assertEqual(rank("&") - rank("$"), 1)


class PrecedesTest(unittest.TestCase):
    def test_example(self):
        self.assertIs(precedes("b", "aa"), True)

    def test_shorter_texts_come_first(self):
        self.assertIs(precedes("", "\t"), True)
        self.assertIs(precedes("~", "\t\t"), True)
        self.assertIs(precedes("aa", "b"), False)

    def test_equal_texts(self):
        self.assertIs(precedes("", ""), False)
        self.assertIs(precedes("ab", "ab"), False)

    def test_the_first_different_sign_decides(self):
        self.assertIs(precedes("abz", "acb"), True)
        self.assertIs(precedes("acb", "abz"), False)
        self.assertIs(precedes("a\t", "a\n"), True)
        self.assertIs(precedes("\n", " "), True)
        self.assertIs(precedes("$", "&"), True)
        self.assertIs(precedes("B", "a"), True)

    def test_all_pairs_of_short_texts(self):
        texts = ["".join(signs) for n in range(4) for signs in itertools.product("\t\na~", repeat=n)]
        for text in texts:
            for other in texts:
                self.assertIs(precedes(text, other), by_definition(text) < by_definition(other))


class NextTextTest(unittest.TestCase):
    def test_example(self):
        self.assertEqual(next_text("bb", "ab"), "aaa")

    def test_the_last_sign_moves_on(self):
        self.assertEqual(next_text("aa", "ab"), "ab")
        self.assertEqual(next_text("a", "ac"), "c")

    def test_carries(self):
        self.assertEqual(next_text("abb", "ab"), "baa")
        self.assertEqual(next_text("bab", "ab"), "bba")
        self.assertEqual(next_text("acc", "abc"), "baa")

    def test_the_text_becomes_longer(self):
        self.assertEqual(next_text("", "xyz"), "x")
        self.assertEqual(next_text("c", "abc"), "aa")
        self.assertEqual(next_text("ccc", "abc"), "aaaa")

    def test_one_sign_only(self):
        self.assertEqual(next_text("", "a"), "a")
        self.assertEqual(next_text("aaa", "a"), "aaaa")

    def test_all_signs(self):
        self.assertEqual(next_text("$", SIGNS), "&")
        self.assertEqual(next_text("\t", SIGNS), "\n")
        self.assertEqual(next_text("\n", SIGNS), " ")
        self.assertEqual(next_text("a~", SIGNS), "b\t")
        self.assertEqual(next_text("~~", SIGNS), "\t\t\t")

    def test_blanks_count_as_signs(self):
        self.assertEqual(next_text("a \n", "\n a"), "a  ")
        self.assertEqual(next_text("  ", "\n "), "\n\n\n")

    def test_long_texts(self):
        self.assertEqual(next_text("b" * 300, "ab"), "a" * 301)
        self.assertEqual(next_text("a" + "b" * 299, "ab"), "b" + "a" * 299)

    def test_nothing_stands_between(self):
        texts = ["".join(signs) for n in range(5) for signs in itertools.product("\t$&", repeat=n)]
        texts = sorted(texts, key=by_definition)
        for text, following in zip(texts, texts[1:]):
            self.assertEqual(next_text(text, "\t$&"), following)


class TextsUpToTest(unittest.TestCase):
    def test_example(self):
        self.assertEqual(list(texts_up_to("ab", 2)), ["", "a", "b", "aa", "ab", "ba", "bb"])

    def test_it_is_a_generator(self):
        self.assertIsInstance(texts_up_to("ab", 2), types.GeneratorType)

    def test_no_signs(self):
        self.assertEqual(list(texts_up_to("", 0)), [""])
        self.assertEqual(list(texts_up_to("", 300)), [""])

    def test_length_0(self):
        self.assertEqual(list(texts_up_to("ab", 0)), [""])
        self.assertEqual(list(texts_up_to(SIGNS, 0)), [""])

    def test_length_1_with_all_signs(self):
        self.assertEqual(list(texts_up_to(SIGNS, 1)), [""] + list(ALL))

    def test_one_sign(self):
        self.assertEqual(list(texts_up_to("x", 300)), ["x" * n for n in range(301)])

    def test_all_texts_in_text_order(self):
        for signs, length in (("ab", 12), ("\n$&", 7), ("abcdefghi", 4), (SIGNS, 2)):
            texts = [
                "".join(chosen) for n in range(length + 1) for chosen in itertools.product(signs, repeat=n)
            ]
            self.assertEqual(list(texts_up_to(signs, length)), sorted(texts, key=by_definition))


if __name__ == "__main__":
    unittest.main()
