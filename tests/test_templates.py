"""Templates: points [69], [70] and [71] (surespan.templates)."""

import itertools
import random
import unittest

from surespan.alphabet import SIGNS
from surespan.answers import Answer
from surespan.errors import TemplateFault
from surespan.templates import fill, read_template, write_template

STARTS = "abcdefghijklmnopqrstuvwxyz"
NAME_SIGNS = STARTS + "0123456789_"


def reading_of(text):
    """Return the template of a text, or the index of its fault; signs are taken one by one: point [70]."""
    parts, state, kept, name = [], "text", "", ""
    for index, sign in enumerate(text):
        if state in ("text", "other"):
            if sign == "\\":
                state += " escape"
            elif sign == "{" and state == "text":
                parts += [("text", kept)] if kept else []
                state, kept, name = "open", "", ""
            elif sign == "}" and state == "other":
                parts.append(("group", name, kept))
                state, kept = "text", ""
            elif sign in "{}" or (sign == "|" and state == "other"):
                return index
            else:
                kept += sign
        elif state.endswith("escape"):
            if sign not in "\\{}nt" + ("|" if state == "other escape" else ""):
                return index
            kept += {"n": "\n", "t": "\t"}.get(sign, sign)
            state = state.split()[0]
        elif state == "open" and sign == "}":
            parts.append(("whole",))
            state = "text"
        elif state == "name" and sign in "}|":
            parts += [("group", name, "")] if sign == "}" else []
            state = "text" if sign == "}" else "other"
        elif sign in (STARTS if state == "open" else NAME_SIGNS) and len(name) < 12:
            state, name = "name", name + sign
        else:
            return index
    if state != "text":
        return len(text)
    return tuple(parts + ([("text", kept)] if kept else []))


class ReadTest(unittest.TestCase):
    def check_fault(self, text, index):
        with self.assertRaises(TemplateFault, msg=text) as caught:
            read_template(text)
        self.assertEqual(caught.exception.index, index, text)

    def test_examples(self):
        self.assertEqual(read_template("<{x|none}>"), (("text", "<"), ("group", "x", "none"), ("text", ">")))
        self.check_fault("a}", 1)

    def test_texts(self):
        self.assertEqual(read_template(""), ())
        for sign in SIGNS:
            if sign not in "\\{}":
                self.assertEqual(read_template(sign), (("text", sign),))
                self.assertEqual(read_template("a" + sign + sign), (("text", "a" + sign + sign),))

    def test_escapes(self):
        for written, sign in (("\\\\", "\\"), ("\\{", "{"), ("\\}", "}"), ("\\n", "\n"), ("\\t", "\t")):
            self.assertEqual(read_template(written), (("text", sign),))
            self.assertEqual(read_template("a" + written + "b"), (("text", "a" + sign + "b"),))
        # All signs up to the next brace form make one text part.
        self.assertEqual(read_template("a\\{b\\}\\\\n{}c"), (("text", "a{b}\\n"), ("whole",), ("text", "c")))

    def test_wrong_escapes(self):
        for sign in SIGNS:
            if sign not in "\\{}nt":
                self.check_fault("a\\" + sign, 2)
        self.check_fault("\\", 1)
        self.check_fault("ab\\", 3)
        self.check_fault("\\|", 1)

    def test_brace_forms(self):
        self.assertEqual(read_template("{}"), (("whole",),))
        self.assertEqual(read_template("{}{}"), (("whole",), ("whole",)))
        self.assertEqual(read_template("{x}"), (("group", "x", ""),))
        self.assertEqual(read_template("{x|}"), (("group", "x", ""),))
        self.assertEqual(read_template("{a_1}{x|b}"), (("group", "a_1", ""), ("group", "x", "b")))

    def test_names_of_12_and_13_signs(self):
        name = "abcdefghij_9"
        self.assertEqual(len(name), 12)
        self.assertEqual(read_template("{" + name + "}"), (("group", name, ""),))
        self.assertEqual(read_template("{" + name + "|o}"), (("group", name, "o"),))
        self.check_fault("{" + name + "k}", 13)
        self.check_fault("a{" + name + "k|o}", 14)
        self.check_fault("{" + name, 13)
        self.check_fault("{" + name + "\\", 13)

    def test_wrong_names(self):
        for text, index in (
            ("{", 1), ("{X}", 1), ("{1}", 1), ("{_}", 1), ("{|a}", 1), ("{ }", 1), ("{\\n}", 1), ("{{}}", 1), ("{x", 2), ("{xY}", 2), ("{x y}", 2),
            ("{x-}", 2), ("{x{}", 2), ("{x\\}", 2), ("ab{x", 4), ("{}{", 3),
        ):
            self.check_fault(text, index)

    def test_other_texts(self):
        for written, other in (
            ("a b", "a b"), ("\\\\", "\\"), ("\\{", "{"), ("\\}", "}"), ("\\|", "|"), ("\\n", "\n"), ("\\t", "\t"), ("a\\|b\\|", "a|b|"), ("\n\t", "\n\t"),
            ("\\{\\}", "{}"), ("^~*", "^~*"),
        ):
            self.assertEqual(read_template("{x|" + written + "}"), (("group", "x", other),), written)

    def test_wrong_other_texts(self):
        for text, index in (
            ("{x|", 3), ("{x|a", 4), ("{x|a|}", 4), ("{x||}", 3), ("{x|{}}", 3), ("{x|a{", 4), ("{x|\\", 4), ("{x|\\a}", 4), ("{x|\\", 4), ("{x|a\\}", 6),
            ("{x|}}", 4), ("{x|a}b}", 6),
        ):
            self.check_fault(text, index)

    def test_closing_braces(self):
        for text, index in (("}", 0), ("a}", 1), ("{}}", 2), ("{x}}", 3), ("\\{}", 2), ("a\n}b", 2)):
            self.check_fault(text, index)

    def test_all_short_texts(self):
        for size in range(6):
            for signs in itertools.product("\\{}|nA", repeat=size):
                self.check_reading("".join(signs))

    def test_random_texts(self):
        chance = random.Random(70)
        for _ in range(4000):
            self.check_reading("".join(chance.choice("\\{{}}||nxyab1_ \n\t~A") for _ in range(chance.randrange(20))))

    def check_reading(self, text):
        expected = reading_of(text)
        if isinstance(expected, int):
            self.check_fault(text, expected)
        else:
            self.assertEqual(read_template(text), expected, text)
            again = write_template(expected)
            self.assertEqual(read_template(again), expected)


class WriteTest(unittest.TestCase):
    def test_parts(self):
        for template, expected in (
            ((), ""), ((("text", "a b"),), "a b"), ((("whole",),), "{}"), ((("group", "x", ""),), "{x}"), ((("group", "x", "a"),), "{x|a}"),
            ((("text", "<"), ("group", "x", "none"), ("text", ">")), "<{x|none}>"),
        ):
            self.assertEqual(write_template(template), expected)

    def test_signs_in_texts(self):
        written = {"\\": "\\\\", "{": "\\{", "}": "\\}", "\n": "\\n", "\t": "\\t"}
        for sign in SIGNS:
            self.assertEqual(write_template((("text", sign),)), written.get(sign, sign))
        self.assertEqual(write_template((("text", "a|b~\n"),)), "a|b~\\n")

    def test_signs_in_other_texts(self):
        written = {"\\": "\\\\", "{": "\\{", "}": "\\}", "\n": "\\n", "\t": "\\t", "|": "\\|"}
        for sign in SIGNS:
            self.assertEqual(write_template((("group", "x", sign),)), "{x|" + written.get(sign, sign) + "}")

    def test_canonical_texts(self):
        for text, expected in (("a\n\t{x|}", "a\\n\\t{x}"), ("{x|\n\\|}", "{x|\\n\\|}"), ("{}\\n|", "{}\\n|")):
            self.assertEqual(write_template(read_template(text)), expected)

    def test_many_templates(self):
        chance = random.Random(71)
        for _ in range(500):
            parts = []
            for _ in range(chance.randrange(6)):
                kind = chance.randrange(3)
                text = "".join(chance.choice(SIGNS) for _ in range(chance.randrange(1, 6)))
                if kind == 0 and not (parts and parts[-1][0] == "text"):
                    parts.append(("text", text))
                elif kind == 1:
                    parts.append(("whole",))
                else:
                    parts.append(("group", chance.choice(("x", "a_1", "abcdefghijkl")), text if chance.random() < 0.6 else ""))
            template = tuple(parts)
            self.assertEqual(read_template(write_template(template)), template)
            self.assertEqual(write_template(read_template(write_template(template))), write_template(template))


class FillTest(unittest.TestCase):
    def test_parts(self):
        answer = Answer("xaabz", 1, 4, (("e", 4, 4), ("n", 1, 3)))
        for text, expected in (
            ("", ""), ("a\\n", "a\n"), ("{}", "aab"), ("{n}", "aa"), ("{n|other}", "aa"), ("{e|other}", ""), ("{m}", ""), ("{m|other}", "other"),
            ("[{}|{n}|{m|?}|{e}]", "[aab|aa|?|]"), ("{}{}", "aabaab"),
        ):
            self.assertEqual(fill(read_template(text), answer), expected, text)

    def test_empty_answers(self):
        self.assertEqual(fill(read_template("<{}>"), Answer("ab", 1, 1, ())), "<>")
        self.assertEqual(fill((), Answer("ab", 0, 2, ())), "")


if __name__ == "__main__":
    unittest.main()
