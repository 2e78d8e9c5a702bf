"""Replacement in pieces: points [72], [74] and [78] (surespan.replacestreams)."""

import unittest

from surespan.answers import Answer
from surespan.errors import NotRegular, StreamClosed, UnknownGroup
from surespan.measures import weight
from surespan.reading import read_pattern
from surespan.replacestreams import ReplaceStream
from surespan.replacing import replace_all
from surespan.streams import Stream
from surespan.templates import fill, read_template
from surespan.trees import group_names
from tests.samples import A, B, Dense, group, look, repeat, same, seq


def parts(pattern, template, pieces):
    """Return the list of the texts that the calls return for pieces, and at last for `finish`."""
    stream = ReplaceStream(read_pattern(pattern), read_template(template))
    return [stream.feed(piece) for piece in pieces] + [stream.finish()]


class ReplaceStreamTest(unittest.TestCase):
    def test_example(self):
        stream = ReplaceStream(read_pattern("a"), read_template("x"))
        self.assertEqual([stream.feed("ba"), stream.feed("b"), stream.finish()], ["bx", "", "b"])

    def test_the_parts_that_each_piece_returns(self):
        for pattern, template, pieces, expected in (
            ("a", "x", ["bab", "ba", ""], ["bx", "bbx", "", ""]), ("a", "x", [], [""]), ("a", "x", ["b", "b"], ["", "", "bb"]),
            ("a+", "<{}>", ["a", "ab", "a"], ["", "<aa>", "", "b<a>"]),
            ("{as x:a}b?", "({x})", ["ca", "b", "a", "c"], ["", "c(a)", "", "(a)", "c"]), ("", "-", ["ab", "c"], ["-a-b-", "c-", ""]),
            ("ab|a", "{}!", "aab", ["", "a!", "ab!", ""]), ("a", "", ["ba", "b"], ["b", "", "b"]), ("{end}", "!", ["a", "b"], ["", "", "ab!"]),
            ("{as x:a}|{as y:b}", "{x|-}{y|+}", "ab", ["a+", "-b", ""]),
        ):
            self.assertEqual(parts(pattern, template, pieces), expected, (pattern, template, pieces))

    def test_only_texts_are_returned(self):
        for found in (parts("a*", "", ["", "a"]), parts("[]", "{}", ["", "a"])):
            self.assertTrue(all(type(text) is str for text in found))

    def test_captured_spans_of_earlier_pieces(self):
        self.assertEqual(parts("{as x:a+}b", "{x}{x}", ["ca", "a", "bd"]), ["", "", "caaaa", "d"])

    def test_unknown_names(self):
        for pattern, template, name in (("a", "{x}", "x"), ("{as x:a}", "{x}{z|o}{y}", "z"), ("{as xx:a}", "{}{x}", "x")):
            with self.assertRaises(UnknownGroup) as caught:
                ReplaceStream(read_pattern(pattern), read_template(template))
            self.assertEqual(caught.exception.name, name)
        self.assertEqual(parts("a|{as x:[]}", "{x|-}", ["ba"]), ["b-", ""])

    def test_not_regular(self):
        for tree in (same("x"), seq(group("x", A), same("x")), seq(group("x", A), look(B), repeat(same("x"), 0, 0))):
            # A tree that is not regular comes before a name that is not known.
            for template in ("", "{x}", "{y}"):
                with self.assertRaises(NotRegular):
                    ReplaceStream(tree, read_template(template))

    def test_calls_after_finish(self):
        stream = ReplaceStream(read_pattern("a"), read_template("x"))
        stream.feed("ab")
        self.assertEqual(stream.finish(), "b")
        for call in (stream.finish, lambda: stream.feed("a"), lambda: stream.feed("")):
            with self.assertRaises(StreamClosed):
                call()

    def test_many_trees(self):
        growing = Dense(78, kinds=("look", "edge"))
        chance = growing.chance
        for _ in range(250):
            tree = growing.tree(chance.choice((3, 4, 4, 5)))
            if weight(tree) > 24:
                continue
            template = read_template("<{}" + "".join("{" + name + "|none}" for name in group_names(tree)) + ">")
            text = "".join(chance.choice("aab\n ") for _ in range(chance.randrange(9)))
            stream, other = ReplaceStream(tree, template), Stream(tree)
            found, at, behind = "", 0, 0
            while at < len(text):
                step = chance.choice((0, 1, 1, 2, 3))
                part = stream.feed(text[at:at + step])
                expected = ""
                for start, end, row in other.feed(text[at:at + step]):
                    expected += text[behind:start] + fill(template, Answer(text, start, end, row))
                    behind = end
                self.assertEqual(part, expected)
                found, at = found + part, at + step
            self.assertEqual(found + stream.finish(), replace_all(tree, template, text))


if __name__ == "__main__":
    unittest.main()
