"""Writing of pattern texts: point [23]."""

import itertools
import random
import unittest

from surespan.alphabet import BLANKS, DIGITS, LETTERS, SIGNS, WORD_SIGNS
from surespan.reading import read_pattern
from surespan.writing import write_pattern, write_set
from tests.samples import (
    A, B, C, Dense, EDGE_KINDS, EMPTY, Growing, NOTHING, alt, edge, group, look, repeat, same, seq, trees_of_each_form,
)

SPECIAL = "\\|*+?<>()[]{}.~^"


def in_brackets(signs):
    """Return what stands in the brackets for these signs, sign by sign as the document says."""
    def one(sign):
        return {"\n": "\\n", "\t": "\\t"}.get(sign, "\\" + sign if sign in "\\[]^-" else sign)

    written, at = "", 0
    while at < len(signs):
        length = 1
        while signs[at:at + length + 1] in SIGNS and at + length < len(signs):
            length += 1
        if length > 2:
            written += one(signs[at]) + "-" + one(signs[at + length - 1])
        else:
            written += "".join(one(sign) for sign in signs[at:at + length])
        at += length
    return written


class WriteSetTest(unittest.TestCase):
    def write(self, signs, expected):
        self.assertEqual(write_set(signs), expected)
        self.assertEqual(read_pattern(expected), ("set", signs))

    def test_example(self):
        self.write("abcx", "[a-cx]")

    def test_one_sign(self):
        for sign in SIGNS:
            if sign in SPECIAL:
                self.write(sign, "\\" + sign)
            elif sign not in "\n\t":
                self.write(sign, sign)
        self.write("\n", "\\n")
        self.write("\t", "\\t")
        self.write("-", "-")

    def test_all_signs_but_the_newline(self):
        self.write(SIGNS.replace("\n", ""), ".")
        self.write(SIGNS.replace("\t", ""), "[^\\t]")

    def test_no_sign_and_all_signs(self):
        self.write("", "[]")
        self.write(SIGNS, "[^]")

    def test_named_kinds_of_signs_are_written_as_other_sets(self):
        self.write(DIGITS, "[0-9]")
        self.write(LETTERS, "[A-Za-z]")
        self.write(BLANKS, "[\\t- ]")
        self.write(WORD_SIGNS, "[0-9A-Z_a-z]")

    def test_runs(self):
        self.write("ab", "[ab]")
        self.write("abc", "[a-c]")
        self.write("abcd", "[a-d]")
        self.write("abd", "[abd]")
        self.write("abde", "[abde]")
        self.write("abcefgxz", "[a-ce-gxz]")
        self.write("ac", "[ac]")

    def test_signs_around_the_sign_that_is_left_out(self):
        self.write("$&", "[$&]")
        self.write("#$&", "[#-&]")
        self.write("$&'", "[$-']")
        self.write("#&", "[#&]")

    def test_newline_and_tab_in_brackets(self):
        self.write("\t\n", "[\\t\\n]")
        self.write("\na", "[\\na]")
        self.write("\n !", "[\\n-!]")
        self.write("\t ", "[\\t ]")

    def test_escapes_in_brackets(self):
        self.write("[\\", "[\\[\\\\]")
        self.write("[\\]^", "[\\[-\\^]")
        self.write("\\]", "[\\\\\\]]")
        self.write("^a", "[\\^a]")
        self.write("-a", "[\\-a]")
        self.write("+,-", "[+-\\-]")
        self.write("-./", "[\\--/]")
        self.write("*.", "[*.]")
        self.write("()|}~", "[()|-~]")

    def test_the_shorter_one_of_the_two_forms(self):
        self.write(SIGNS.replace("a", ""), "[^a]")
        self.write(SIGNS.replace("^", ""), "[^\\^]")
        self.write(SIGNS.replace("a", "").replace("c", ""), "[^ac]")
        self.write(SIGNS[:-1], "[^~]")
        self.write(SIGNS[1:], "[^\\t]")
        # Both forms have six signs here, so the direct one is taken.
        self.write(SIGNS[:SIGNS.index("n")], "[\\t-m]")
        self.write(SIGNS[SIGNS.index("n"):], "[n-~]")
        self.write(SIGNS[:-2], "[^}~]")

    def test_every_run(self):
        for first, last in itertools.combinations_with_replacement(range(96), 2):
            signs = SIGNS[first:last + 1]
            self.assertEqual(read_pattern(write_set(signs)), ("set", signs))

    def test_sets_at_random(self):
        chance = random.Random(23)
        for _ in range(400):
            share = chance.choice([0.03, 0.1, 0.5, 0.9, 0.97])
            signs = "".join(sign for sign in SIGNS if chance.random() < share)
            if len(signs) == 1 or signs == SIGNS.replace("\n", ""):
                continue
            direct = "[" + in_brackets(signs) + "]"
            negated = "[^" + in_brackets("".join(sign for sign in SIGNS if sign not in signs)) + "]"
            self.write(signs, direct if len(direct) <= len(negated) else negated)


class WritePatternTest(unittest.TestCase):
    def write(self, tree, expected):
        self.assertEqual(write_pattern(tree), expected)
        self.assertEqual(read_pattern(expected), tree)

    def test_example(self):
        self.write(("repeat", ("seq", (("set", "a"), ("set", "."))), 0, 1, True), "(a\\.)?~")

    def test_simple_forms(self):
        self.write(EMPTY, "")
        self.write(A, "a")
        self.write(NOTHING, "[]")
        self.write(seq(A, B, C), "abc")
        self.write(alt(A, B, C), "a|b|c")

    def test_items_in_parentheses(self):
        self.write(seq(alt(A, B), C), "(a|b)c")
        self.write(seq(C, alt(A, B)), "c(a|b)")
        self.write(seq(A, EMPTY), "a()")
        self.write(seq(EMPTY, EMPTY), "()()")
        self.write(seq(A, seq(B, C)), "a(bc)")
        self.write(seq(seq(A, B), seq(B, C)), "(ab)(bc)")

    def test_items_without_parentheses(self):
        self.write(seq(repeat(A, 0, None), group("x", alt(A, B)), edge("end"), look(seq(A, B)), same("x")),
                   "a*{as x:a|b}{end}{ahead:ab}{same x}")

    def test_branches_in_parentheses(self):
        self.write(alt(alt(A, B), C), "(a|b)|c")
        self.write(alt(C, alt(A, B)), "c|(a|b)")

    def test_branches_without_parentheses(self):
        self.write(alt(seq(A, B), EMPTY), "ab|")
        self.write(alt(EMPTY, EMPTY, A), "||a")
        self.write(alt(repeat(alt(A, B), 0, 1), group("x", EMPTY)), "(a|b)?|{as x:}")

    def test_bodies_of_repeats(self):
        self.write(repeat(alt(A, B), 0, None), "(a|b)*")
        self.write(repeat(seq(A, B), 0, None), "(ab)*")
        self.write(repeat(EMPTY, 0, None), "()*")
        self.write(repeat(repeat(A, 0, None), 0, None), "(a*)*")
        self.write(repeat(repeat(A, 0, 1, True), 1, None), "(a?~)+")
        self.write(repeat(("set", "ab"), 0, None), "[ab]*")
        self.write(seq(group("x", A), repeat(same("x"), 0, None)), "{as x:a}{same x}*")
        self.write(repeat(group("x", alt(A, B)), 0, 1), "{as x:a|b}?")
        self.write(repeat(look(alt(A, B)), 2, 2), "{ahead:a|b}<2>")
        self.write(repeat(edge("start"), 0, 1), "{start}?")

    def test_bodies_of_braces(self):
        self.write(group("x", seq(A, B)), "{as x:ab}")
        self.write(group("x", alt(A, EMPTY)), "{as x:a|}")
        self.write(group("x", group("y", repeat(A, 1, None))), "{as x:{as y:a+}}")

    def test_numbers(self):
        for least in range(10):
            for most in [*range(least, 10), None]:
                expected = {(0, None): "*", (1, None): "+", (0, 1): "?"}.get((least, most))
                if expected is None and least == most:
                    expected = "<{}>".format(least)
                if expected is None:
                    expected = "<{},{}>".format(least, "" if most is None else most)
                self.write(repeat(A, least, most), "a" + expected)
                self.write(repeat(A, least, most, True), "a" + expected + "~")

    def test_brace_forms(self):
        for kind in EDGE_KINDS:
            self.write(edge(kind), "{" + kind + "}")
        self.write(look(A, "ahead", True), "{ahead:a}")
        self.write(look(A, "ahead", False), "{not ahead:a}")
        self.write(look(A, "behind", True), "{behind:a}")
        self.write(look(A, "behind", False), "{not behind:a}")
        self.write(look(EMPTY), "{ahead:}")
        self.write(group("abcdefghij_9", A), "{as abcdefghij_9:a}")
        self.write(seq(group("x", A), same("x")), "{as x:a}{same x}")

    def test_parts_of_trees(self):
        self.assertEqual(write_pattern(same("x")), "{same x}")
        self.assertEqual(write_pattern(seq(same("x"), A)), "{same x}a")

    def test_reading_back(self):
        for tree in trees_of_each_form():
            self.assertEqual(read_pattern(write_pattern(tree)), tree)
        for growing in (Growing(23, "ab\\^-]."), Dense(24)):
            for depth in [3, 4, 5, 6] * 100:
                tree = growing.tree(depth)
                self.assertEqual(read_pattern(write_pattern(tree)), tree)

    def test_writing_what_has_been_read(self):
        for text in ("a|b*", "{as x:(a|b)+}{same x}", "[^a-z]\\n", ".?~|()", "{not behind:ab|{start}}", "((a)|(bc))<2,>"):
            tree = read_pattern(text)
            self.assertEqual(read_pattern(write_pattern(tree)), tree)
        self.assertEqual(write_pattern(read_pattern("((a)|(bc))<2,2>")), "(a|bc)<2>")
        self.assertEqual(write_pattern(read_pattern("[a-a][ba]{digit}\n")), "a[ab][0-9]\\n")


if __name__ == "__main__":
    unittest.main()
