"""Reading of pattern texts: points [17] to [22]."""

import itertools
import random
import unittest

from surespan.alphabet import BLANKS, DIGITS, LETTERS, SIGNS, WORD_SIGNS
from surespan.errors import PatternFault, UnknownGroup
from surespan.reading import read_pattern
from surespan.trees import check_tree, group_names
from tests.samples import (
    A, B, C, EDGE_KINDS, EMPTY, Growing, alt, edge, group, look, repeat, same, seq, trees_of_each_form,
)

SPECIALS = "\\|*+?<>()[]{}.~^"
BRACKET_SPECIALS = "\\[]^-"
NOT_NEWLINE = ("set", SIGNS.replace("\n", ""))


def fault(text):
    """Return the index of the fault of a text, or None for a pattern text."""
    try:
        read_pattern(text)
    except PatternFault as error:
        return error.index
    except UnknownGroup:
        return None
    return None


class Writer:
    """Writes trees as pattern texts in one of many ways, chosen at random."""

    def __init__(self, seed):
        self.chance = random.Random(seed)

    def write(self, tree):
        """Return a pattern text of the tree that can stand anywhere as an atom."""
        text = getattr(self, "write_" + tree[0])(tree)
        compact = tree[0] in ("set", "group", "look", "edge", "same")
        return text if compact and self.chance.random() < 0.7 else "(" + text + ")"

    def write_empty(self, tree):
        return ""

    def write_seq(self, tree):
        return "".join(self.write(part) for part in tree[1])

    def write_alt(self, tree):
        return "|".join(self.write(branch) for branch in tree[1])

    def write_group(self, tree):
        return "{as " + tree[1] + ":" + self.write(tree[2]) + "}"

    def write_same(self, tree):
        return "{same " + tree[1] + "}"

    def write_edge(self, tree):
        return "{" + tree[1] + "}"

    def write_look(self, tree):
        return "{" + ("" if tree[2] else "not ") + tree[1] + ":" + self.write(tree[3]) + "}"

    def write_repeat(self, tree):
        forms = {(0, None): ["*", "<0,>"], (1, None): ["+", "<1,>"], (0, 1): ["?", "<0,1>"]}
        least, most, lazy = tree[2:]
        if most is None:
            usual = ["<" + str(least) + ",>"]
        else:
            usual = ["<" + str(least) + "," + str(most) + ">"] + (["<" + str(least) + ">"] if least == most else [])
        return self.write(tree[1]) + self.chance.choice(forms.get((least, most), usual)) + ("~" if lazy else "")

    def write_set(self, tree):
        signs = tree[1]
        if len(signs) == 1 and self.chance.random() < 0.5:
            return "\\" + signs if signs in SPECIALS else signs
        if self.chance.random() < 0.5:
            return "[^" + self.write_entries("".join(s for s in SIGNS if s not in signs)) + "]"
        return "[" + self.write_entries(signs) + "]"

    def write_entries(self, signs):
        if signs == SIGNS and self.chance.random() < 0.5:
            return self.write_member("\t") + "-" + self.write_member("~")
        return "".join(self.write_member(s) for s in self.chance.sample(signs, len(signs)))

    def write_member(self, sign):
        if sign in BRACKET_SPECIALS:
            return "\\" + sign
        if sign in "\n\t" and self.chance.random() < 0.5:
            return {"\n": "\\n", "\t": "\\t"}[sign]
        return sign


class TreesTest(unittest.TestCase):
    def read(self, text, tree):
        self.assertEqual(read_pattern(text), tree, text)

    def test_example(self):
        self.read("a|{as x:b}*", alt(A, repeat(group("x", B), 0, None)))

    def test_branches_and_items(self):
        self.read("", EMPTY)
        self.read("a", A)
        self.read("ab", seq(A, B))
        self.read("abc", seq(A, B, C))
        self.read("a|b", alt(A, B))
        self.read("ab|c", alt(seq(A, B), C))
        self.read("a|b|c", alt(A, B, C))
        self.read("|", alt(EMPTY, EMPTY))
        self.read("||", alt(EMPTY, EMPTY, EMPTY))
        self.read("a|", alt(A, EMPTY))
        self.read("|a", alt(EMPTY, A))
        self.read("a||b", alt(A, EMPTY, B))

    def test_parentheses(self):
        self.read("()", EMPTY)
        self.read("(a)", A)
        self.read("((a))", A)
        self.read("(ab)c", seq(seq(A, B), C))
        self.read("a(bc)", seq(A, seq(B, C)))
        self.read("(a|b)|c", alt(alt(A, B), C))
        self.read("a(b|c)", seq(A, alt(B, C)))
        self.read("a()b", seq(A, EMPTY, B))
        self.read("(|)a", seq(alt(EMPTY, EMPTY), A))
        self.read("()()", seq(EMPTY, EMPTY))

    def test_repeats(self):
        for written, least, most in (
            ("*", 0, None), ("+", 1, None), ("?", 0, 1), ("<3>", 3, 3), ("<3,>", 3, None), ("<2,5>", 2, 5),
            ("<0>", 0, 0), ("<0,>", 0, None), ("<0,0>", 0, 0), ("<9>", 9, 9), ("<9,>", 9, None), ("<9,9>", 9, 9),
            ("<0,9>", 0, 9), ("<0,1>", 0, 1), ("<1,>", 1, None),
        ):
            self.read("a" + written, repeat(A, least, most, False))
            self.read("a" + written + "~", repeat(A, least, most, True))
            self.read("b(a" + written + ")|c", alt(seq(B, repeat(A, least, most)), C))
            self.read("ba" + written + "~c", seq(B, repeat(A, least, most, True), C))

    def test_all_numbers_of_repeats(self):
        for n in range(10):
            self.read("a<%d>" % n, repeat(A, n, n))
            self.read("a<%d,>" % n, repeat(A, n, None))
            for m in range(n, 10):
                self.read("a<%d,%d>" % (n, m), repeat(A, n, m))

    def test_what_a_repeat_repeats(self):
        self.read("ab*", seq(A, repeat(B, 0, None)))
        self.read("(ab)*", repeat(seq(A, B), 0, None))
        self.read("(a|b)+", repeat(alt(A, B), 1, None))
        self.read("()?", repeat(EMPTY, 0, 1))
        self.read("(a*)*", repeat(repeat(A, 0, None), 0, None))
        self.read("((a?~))<2>~", repeat(repeat(A, 0, 1, True), 2, 2, True))
        self.read("[ab]*", repeat(("set", "ab"), 0, None))
        self.read("\\**", repeat(("set", "*"), 0, None))
        self.read(".?", repeat(NOT_NEWLINE, 0, 1))
        self.read("{start}*", repeat(edge("start"), 0, None))
        self.read("{as x:a}+{same x}?", seq(repeat(group("x", A), 1, None), repeat(same("x"), 0, 1)))
        self.read("{ahead:a}<2>", repeat(look(A), 2, 2))
        self.read("a*b*", seq(repeat(A, 0, None), repeat(B, 0, None)))

    def test_plain_signs(self):
        for sign in SIGNS:
            if sign not in SPECIALS:
                self.read(sign, ("set", sign))
                self.read("a" + sign, seq(A, ("set", sign)))
        self.assertEqual(sum(sign in SPECIALS for sign in SIGNS), 16)
        self.read("$&", seq(("set", "$"), ("set", "&")))
        self.read(",-:=", seq(("set", ","), ("set", "-"), ("set", ":"), ("set", "=")))

    def test_escapes(self):
        for sign in SPECIALS:
            self.read("\\" + sign, ("set", sign))
        self.read("\\n", ("set", "\n"))
        self.read("\\t", ("set", "\t"))
        self.read("\n\t", seq(("set", "\n"), ("set", "\t")))
        self.read("\\\\n", seq(("set", "\\"), ("set", "n")))

    def test_the_dot(self):
        self.read(".", NOT_NEWLINE)
        self.assertEqual(len(read_pattern(".")[1]), 95)
        self.read("..", seq(NOT_NEWLINE, NOT_NEWLINE))

    def test_bracket_sets(self):
        for text, signs in (
            ("[]", ""), ("[^]", SIGNS), ("[a]", "a"), ("[ba]", "ab"), ("[aba]", "ab"), ("[a-c]", "abc"), ("[a-a]", "a"),
            ("[c-da-b]", "abcd"), ("[a-cb-d]", "abcd"), ("[^a-~]", SIGNS[:SIGNS.index("a")]), ("[$-&]", "$&"),
            ("[#-']", "#$&'"), ("[\t-\n]", "\t\n"), ("[\\t-\\n]", "\t\n"), ("[\\n- ]", "\n "), ("[\\t-~]", SIGNS),
            ("[^\\t-~]", ""), ("[\\\\\\[\\]\\^\\-]", "-[\\]^"), ("[\\--/]", "-./"), ("[+-\\-]", "+,-"), ("[\\[-\\^]", "[\\]^"),
            ("[.*+?|(){}<>~]", "()*+.<>?{|}~"), ("[a\\^]", "^a"), ("[\n\t]", "\t\n"), ("[a,]", ",a"),
            ("[^\\^]", SIGNS.replace("^", "")), ("[0-9a-f]", "0123456789abcdef"), ("[\\n\\t]", "\t\n"),
            ("[nt]", "nt"), ("[a-c\\-e]", "-abce"), ("[\\]]", "]"), ("[^\\]]", SIGNS.replace("]", "")),
        ):
            self.read(text, ("set", signs))
            self.read(text + "a", seq(("set", signs), A))

    def test_each_sign_in_brackets(self):
        for sign in SIGNS:
            if sign in BRACKET_SPECIALS:
                self.read("[\\" + sign + "]", ("set", sign))
            else:
                self.read("[" + sign + "]", ("set", sign))
                self.read("[^" + sign + "]", ("set", SIGNS.replace(sign, "")))

    def test_each_range_of_neighbours(self):
        def written(sign):
            return "\\" + sign if sign in BRACKET_SPECIALS else sign

        for first, last in zip(SIGNS, SIGNS[1:]):
            self.read("[" + written(first) + "-" + written(last) + "]", ("set", first + last))

    def test_brace_forms(self):
        for kind in EDGE_KINDS:
            self.read("{" + kind + "}", edge(kind))
            self.read("{ahead:{" + kind + "}}", look(edge(kind)))
        for head, signs in (("digit", DIGITS), ("letter", LETTERS), ("blank", BLANKS), ("word", WORD_SIGNS)):
            self.read("{" + head + "}", ("set", signs))
            self.read("a{not behind:({" + head + "})*}", seq(A, look(repeat(("set", signs), 0, None), "behind", False)))
        self.read("{ahead:a}", look(A, "ahead", True))
        self.read("{not ahead:a}", look(A, "ahead", False))
        self.read("{behind:a|b}", look(alt(A, B), "behind", True))
        self.read("{not behind:ab}", look(seq(A, B), "behind", False))
        self.read("{as x:ab}", group("x", seq(A, B)))
        self.read("{as x:}", group("x", EMPTY))
        self.read("{ahead:}", look(EMPTY))
        self.read("{as x:|}", group("x", alt(EMPTY, EMPTY)))
        self.read("{as a_9:b}{same a_9}", seq(group("a_9", B), same("a_9")))
        self.read("{as x:{as y:{ahead:a}b}}c", seq(group("x", group("y", seq(look(A), B))), C))
        self.read("{ahead:a}{as x:{behind:b}}", seq(look(A), group("x", look(B, "behind"))))

    def test_names(self):
        for name in ("a", "z", "abcdefghijkl", "a0123456789_", "as", "same", "x_"):
            self.read("{as " + name + ":a}{same " + name + "}", seq(group(name, A), same(name)))

    def test_sames(self):
        self.read("{as x:a{same x}}", group("x", seq(A, same("x"))))
        self.read("{as x:a}|{same x}", alt(group("x", A), same("x")))
        self.read("{as x:a}{as x:b}{same x}", seq(group("x", A), group("x", B), same("x")))

    def test_trees_that_are_read_are_well_formed(self):
        for text in ("a|{as x:b}*{same x}", "[z-~]<0,9>", "{not behind:{no word edge}|}", "[^]|[]"):
            self.assertIsNone(check_tree(read_pattern(text)))

    def test_written_trees_are_read_again(self):
        growing, writer = Growing(9, signs="ab\n\t-^[]\\.~"), Writer(10)
        for tree in [growing.tree(5) for _ in range(400)] + trees_of_each_form() * 5:
            self.read(writer.write(tree), tree)

    def test_long_texts(self):
        self.read("a" * 400, ("seq", (A,) * 400))
        self.read("[" + "ab" * 199 + "]", ("set", "ab"))
        self.read("a" + "|a" * 199, ("alt", (A,) * 200))
        self.assertEqual(fault("a" * 399 + "*" + "*"), 400)
        self.assertEqual(fault("a" * 399 + ")"), 399)

    def test_deep_texts(self):
        for deep in (30, 31, 60, 199):
            self.read("(" * deep + "a" + ")" * deep, A)
            self.read("(" * deep + "ab" + ")*~" + ")" * (deep - 1), repeat(seq(A, B), 0, None, True))
            self.assertEqual(fault("(" * deep + "a" + ")" * (deep - 1)), 2 * deep)
            self.assertEqual(fault("(" * deep + "a" + ")" * (deep + 1)), 2 * deep + 1)
            self.assertEqual(fault("(" * deep), deep)
        tree = A
        for _ in range(30):
            tree = group("x", tree)
        self.read("{as x:" * 30 + "a" + "}" * 30, tree)
        self.assertEqual(fault("{as x:" * 30 + "a" + "}" * 29), 30 * 6 + 1 + 29)
        self.read("({as x:" * 10 + "a" + "})" * 10, read_pattern("{as x:" * 10 + "a" + "}" * 10))


class FaultsTest(unittest.TestCase):
    def faults(self, *rows):
        for text, index in rows:
            with self.assertRaises(PatternFault, msg=text) as caught:
                read_pattern(text)
            self.assertEqual(caught.exception.index, index, text)

    def test_examples(self):
        self.faults(("ab**", 3), ("a<3,2>", 4))

    def test_repeats_in_wrong_places(self):
        for written in ("*", "+", "?", "<2>", "<2,>", "<2,3>", "*~"):
            self.faults(
                (written, 0), (written + "a", 0), ("a|" + written, 2), ("(" + written + ")", 1), ("()|(a|" + written, 6),
                ("{as x:" + written + "}", 6), ("{ahead:" + written, 7), ("{not behind:a|" + written, 14),
                ("a*" + written, 2), ("a+~" + written, 3), ("a<2>" + written, 4), ("a<2>~" + written, 5),
                ("a?" + written + "b", 2), ("(a*)*" + written, 5), ("|" + written, 1), ("a||" + written, 3),
            )

    def test_tildes(self):
        self.faults(("~", 0), ("a~", 1), ("a*~~", 3), ("a|~", 2), ("(~)", 1), ("(a*)~", 4), ("{start}~", 7), ("a<2>~~", 5))

    def test_closing_signs_that_close_nothing(self):
        for sign in ">]})^":
            self.faults((sign, 0), ("a" + sign, 1), ("a*" + sign, 2), ("a|" + sign, 2), ("[]" + sign, 2), ("()" + sign, 2))
        self.faults(
            ("(a}", 2), ("{as x:a)", 7), ("(a]", 2), ("(a>)", 2), ("a<2>>", 4), ("[a]]", 3), ("((a)))", 5),
            ("{start}}", 7), ("({as x:a)}", 8), ("{as x:(a}", 8), ("{ahead:a}}", 9), ("a^", 1),
        )

    def test_missing_ends(self):
        self.faults(
            ("(", 1), ("(a", 2), ("((a)", 4), ("(a|", 3), ("{as x:", 6), ("{as x:a", 7), ("{ahead:a", 8),
            ("{not behind:(a)", 15), ("({as x:a}", 9),
        )

    def test_escapes(self):
        for sign in SIGNS:
            if sign not in SPECIALS + "nt":
                self.faults(("\\" + sign, 1), ("ab\\" + sign + "*", 3))
        self.faults(("\\", 1), ("a|\\", 3), ("(\\", 2), ("\\\\\\", 3), ("\\\n", 1), ("\\-", 1))

    def test_numbers_of_repeats(self):
        self.faults(
            ("a<", 2), ("a<>", 2), ("a<,", 2), ("a<,2>", 2), ("a<x", 2), ("a<~", 2), ("a<2", 3), ("a<22>", 3),
            ("a<2x", 3), ("a<2~", 3), ("a<2,", 4), ("a<2,x", 4), ("a<2,1>", 4), ("a<2,1", 4), ("a<9,8>", 4), ("a<1,0>", 4),
            ("a<2,,", 4), ("a<2,3", 5), ("a<2,3,", 5), ("a<2,34>", 5), ("a<2,3~>", 5), ("a< 2>", 2), ("a<-1>", 2),
            ("a<2 ,3>", 3), ("a<2, 3>", 4), ("a<a>", 2),
        )
        for n in range(10):
            for m in range(n):
                self.faults(("a<%d,%d>" % (n, m), 4))

    def test_bracket_sets(self):
        self.faults(
            ("[", 1), ("[^", 2), ("[a", 2), ("[^a", 3), ("[-", 1), ("[-a]", 1), ("[^-a]", 2), ("[^^]", 2), ("[a^]", 2),
            ("[[]", 1), ("[a[]", 2), ("[a-]", 3), ("[^a-]", 4), ("[a-", 3), ("[a--]", 3), ("[a-^]", 3), ("[a-[]", 3),
            ("[a-c-e]", 4), ("[a-c-]", 4), ("[b-a]", 3), ("[&-$]", 3), ("[\n-\t]", 3), ("[\\n-\\t]", 4), ("[\\n-\\t", 4),
            ("[ -\\n]", 3), ("[a-\\-]", 3), ("[a-\\]]", 3), ("[a-\\x]", 4), ("[~-\\a", 4), ("[a-\\", 4), ("[\\", 2),
            ("[\\a]", 2), ("[a\\.]", 3), ("[\\*]", 2), ("[\\(]", 2), ("[ab-\\q]", 5), ("x[a-zA-Z0-9", 11), ("[a]-]", 4),
        )
        for sign in SIGNS:
            if sign not in BRACKET_SPECIALS + "nt":
                self.faults(("[\\" + sign + "]", 2), ("[a\\" + sign, 3), ("[\\t-\\" + sign, 5))

    def test_brace_heads(self):
        self.faults(
            ("{", 1), ("{}", 1), ("{x}", 1), ("{ start}", 1), ("{S", 1), ("{1", 1), ("{:", 1), ("{{", 1), ("{start", 6),
            ("{start ", 6), ("{start:", 6), ("{sta}", 4), ("{st ", 3), ("{end:", 4), ("{e}", 2), ("{line}", 5), ("{line ", 6),
            ("{line  ", 6), ("{line x", 6), ("{line start:", 11), ("{line ending", 9), ("{word", 5), ("{word:", 5), ("{words", 5),
            ("{word edges", 10), ("{word edge", 10), ("{no ", 4), ("{no}", 3), ("{no line", 4), ("{no word}", 8), ("{not ", 5),
            ("{not start", 5), ("{not}", 4), ("{not ahead}", 10), ("{ahead}", 6), ("{ahead ", 6), ("{behind", 7), ("{be", 3),
            ("{blank:", 6), ("{b}", 2), ("{digits", 6), ("{digit", 6), ("{letter ", 7), ("{a", 2), ("{as", 3), ("{asx", 3),
            ("{as}", 3), ("{same", 5), ("{same}", 5), ("{samex", 5), ("{not behind ", 11), ("a|({no word edge ", 16),
        )

    def test_names(self):
        self.faults(
            ("{as ", 4), ("{as :", 4), ("{as }", 4), ("{as  ", 4), ("{as X", 4), ("{as 1", 4), ("{as _", 4), ("{as x", 5),
            ("{as x}", 5), ("{as x ", 5), ("{as xY", 5), ("{as x-", 5), ("{as x1_}", 7), ("{same ", 6), ("{same }", 6),
            ("{same 1", 6), ("{same x", 7), ("{same x:", 7), ("{same x ", 7), ("{same x.", 7),
            ("{as abcdefghijkl", 16), ("{as abcdefghijklm", 16), ("{as abcdefghijkl}", 16), ("{as abcdefghijkl_:a}", 16),
            ("{same abcdefghijkl", 18), ("{same abcdefghijklm}", 18), ("{same abcdefghijkl:", 18),
        )
        for sign in SIGNS:
            if sign not in "abcdefghijklmnopqrstuvwxyz":
                self.faults(("{as " + sign, 4), ("{same " + sign, 6))
                if sign not in "0123456789_":
                    self.assertEqual(fault("{as a" + sign), 6 if sign == ":" else 5)
                    self.assertEqual(fault("{same a" + sign), None if sign == "}" else 7)

    def test_heads_inside_a_look(self):
        for head in ("{ahead:", "{not ahead:", "{behind:", "{not behind:"):
            n = len(head)
            self.faults(
                (head + "{ahead:a}}", n + 1), (head + "{as x:a}}", n + 1), (head + "{same x}}", n + 2),
                (head + "{behind:a}}", n + 2), (head + "{not ahead:a}}", n + 3), (head + "({not behind:a})}", n + 4),
                (head + "a|(b{a", n + 5), (head + "{", n + 1),
            )
            self.assertIsNone(fault(head + "({start}|{end}{line start}|{word edge})*{digit}{no word edge}}{as x:a}"))
        self.faults(("{as x:{ahead:{as y:a}}}", 14), ("{as x:a}{ahead:{same x}}", 17), ("{ahead:a}{ahead:({a", 18))

    def test_the_first_of_two_faults(self):
        self.faults(("a)*\\q", 1), ("[a-]**", 3), ("a**)", 2), ("{x}{y", 1), ("\\q[", 1), ("a<2,1>*", 4))


class UnknownGroupTest(unittest.TestCase):
    def unknown(self, text, name):
        with self.assertRaises(UnknownGroup, msg=text) as caught:
            read_pattern(text)
        self.assertEqual(caught.exception.name, name, text)

    def test_example(self):
        self.unknown("{same x}{as x:a}", "x")

    def test_no_earlier_group(self):
        self.unknown("{same x}", "x")
        self.unknown("{as x:a}{same y}", "y")
        self.unknown("{as x:{same y}}{as y:a}", "y")
        self.unknown("a|({same abcdefghijkl})*", "abcdefghijkl")
        self.unknown("({same x}{as x:a})+", "x")

    def test_the_first_one_in_preorder(self):
        self.unknown("{same b}{same a}", "b")
        self.unknown("{as x:a}{same x}(b|{same z}){same y}", "z")
        self.unknown("{as x:{same x}{same q}}{same y}{as q:}", "q")

    def test_a_fault_comes_before_it(self):
        for text, index in (
            ("{same x}{as x:a}**", 17), ("{same x}(", 9), ("{same x}|*", 9), ("({same x}", 9), ("{same x}\\", 9),
            ("{same x}{same y", 15), ("*{same x}", 0), ("{same x}[a-]", 11), ("{same x}a<2,1>", 12),
        ):
            with self.assertRaises(PatternFault, msg=text) as caught:
                read_pattern(text)
            self.assertEqual(caught.exception.index, index, text)


class FirstFaultTest(unittest.TestCase):
    """The index of a fault is the least one up to which the text cannot be continued."""

    def check_prefixes(self, text):
        index = fault(text)
        for end in range(len(text) + 1):
            found = fault(text[:end])
            if index is None or end <= index:
                # A beginning that can still be continued lacks a sign at its end, if anything.
                self.assertIn(found, (None, end), (text, end))
            elif not (found == end and "-\\" in text[:end]):
                # Only the `\` behind a range's `-` may be told to be wrong after one sign more.
                self.assertEqual(found, index, (text, end))

    def test_short_texts(self):
        for front, signs, length in (
            ("", "a*|()", 6), ("a", "<>,12~", 5), ("[", "]^-\\ab", 5), ("[b-", "]-\\ant", 4), ("{", "}as :x", 5),
        ):
            for n in range(length + 1):
                for chosen in itertools.product(signs, repeat=n):
                    self.check_prefixes(front + "".join(chosen))

    def test_changed_texts(self):
        growing, writer, chance = Growing(11, signs="ab-]"), Writer(12), random.Random(13)
        for _ in range(600):
            text = writer.write(growing.tree(4))
            if len(text) > 80:
                continue
            at = chance.randrange(len(text))
            for changed in (text[:at] + text[at + 1:], text[:at] + chance.choice(SIGNS) + text[at:]):
                self.check_prefixes(changed)

    def test_texts_in_which_a_fault_is_fixed(self):
        for text in ("a*", "(a|b)+", "[^a-c\\-]", "{as x:a}{same x}", "{not ahead:{digit}}"):
            for at in range(len(text)):
                if fault(text[:at]) is not None:
                    self.assertEqual(fault(text[:at]), at)

    def test_names_in_the_tree(self):
        self.assertEqual(group_names(read_pattern("{as y:{as x:a}}{as y:b}")), ["y", "x"])


if __name__ == "__main__":
    unittest.main()
