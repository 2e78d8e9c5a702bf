"""Streams: points [14], [67] and [74] to [77] (surespan.streams)."""

import random
import unittest

from surespan.alphabet import texts_up_to
from surespan.errors import NotRegular, StreamClosed, TooManyAnswers
from surespan.measures import weight
from surespan.reading import read_pattern
from surespan.scanning import scan
from surespan.streams import Stream, drain
from tests.samples import A, B, Dense, group, look, repeat, same, seq, telling_signs


def stream_of(pattern):
    return Stream(read_pattern(pattern))


def spans_fed(pattern, pieces):
    """Return the lists of the spans that a stream returns for pieces, and at last for `finish`."""
    stream = stream_of(pattern)
    return [[answer[:2] for answer in stream.feed(piece)] for piece in pieces] + [
        [answer[:2] for answer in stream.finish()]
    ]


class SureTest(unittest.TestCase):
    def test_example(self):
        stream = stream_of("ab|a")
        found = [stream.feed("a"), stream.doubt(), stream.feed("ca"), stream.finish()]
        self.assertEqual(found, [[], "b", [(0, 1, ())], [(2, 3, ())]])

    def test_as_soon_as_it_is_sure_and_not_before(self):
        for pattern, pieces, expected in (
            ("a", "bab", [[], [(1, 2)], [], []]), ("a+", "aab", [[], [], [(0, 2)], []]), ("a+~", "aa", [[(0, 1)], [(1, 2)], []]), ("a+", "aa", [[], [], [(0, 2)]]),
            ("a?", "ba", [[(0, 0)], [(1, 2)], [(2, 2)]]), ("a*", "ba", [[(0, 0)], [], [(1, 2), (2, 2)]]), ("", "ab", [[(0, 0), (1, 1)], [(2, 2)], []]),
            ("a|ab", "ab", [[(0, 1)], [], []]), ("ab|a", "ab", [[], [(0, 2)], []]), ("abc|a", "abd", [[], [], [(0, 1)], []]), ("a(bc)?", "abb", [[], [], [(0, 1)], []]),
            ("[]", "ab", [[], [], []]), (".*", "ab", [[], [], [(0, 2), (2, 2)]]), ("[^]*b", "ab", [[], [], [(0, 2)]]), ("a<2>", "aaa", [[], [(0, 2)], [], []]),
            ("a<2,3>", "aaaa", [[], [], [(0, 3)], [], []]), ("a<2,3>~", "aaaa", [[], [(0, 2)], [], [(2, 4)], []]),
        ):
            self.assertEqual(spans_fed(pattern, pieces), expected, (pattern, pieces))

    def test_the_empty_piece(self):
        stream = stream_of("|a")
        self.assertEqual(stream.feed(""), [(0, 0, ())])
        self.assertEqual(stream.feed(""), [])
        self.assertEqual(stream.feed("b"), [(1, 1, ())])
        self.assertEqual(stream.finish(), [])
        stream = stream_of("a|")
        self.assertEqual([stream.feed(""), stream.feed(""), stream.finish()], [[], [], [(0, 0, ())]])
        self.assertEqual(stream_of("").finish(), [(0, 0, ())])
        self.assertEqual(stream_of("a").finish(), [])

    def test_looks_ahead(self):
        self.assertEqual(spans_fed("a{ahead:b}", "abab"), [[], [(0, 1)], [], [(2, 3)], []])
        self.assertEqual(spans_fed("a{not ahead:b}", "aba"), [[], [], [], [(2, 3)]])
        self.assertEqual(spans_fed("a{not ahead:b}", "aaa"), [[], [(0, 1)], [(1, 2)], [(2, 3)]])
        self.assertEqual(spans_fed("a{ahead:.*b}|a", "acb"), [[(0, 1)], [], [], []])
        self.assertEqual(spans_fed("a{ahead:.*b}.|a", "acb"), [[], [], [(0, 2)], []])
        self.assertEqual(spans_fed("a{ahead:.*b}.|a", "ac\n"), [[], [], [(0, 1)], []])
        # The row depends on the look, though the span does not.
        stream = stream_of("a{ahead:..b}|{as x:a}")
        self.assertEqual([stream.feed(sign) for sign in "acab"], [[], [], [], [(0, 1, ())]])
        self.assertEqual(stream.finish(), [(2, 3, (("x", 2, 3),))])

    def test_edges(self):
        self.assertEqual(spans_fed("a{end}", "aa"), [[], [], [(1, 2)]])
        self.assertEqual(spans_fed("a{line end}", "a\na"), [[], [(0, 1)], [], [(2, 3)]])
        self.assertEqual(spans_fed("{line start}a", "aa\na"), [[(0, 1)], [], [], [(3, 4)], []])
        self.assertEqual(spans_fed("{start}a", "aa"), [[(0, 1)], [], []])
        self.assertEqual(spans_fed("a{word edge}", "a aa"), [[], [(0, 1)], [], [], [(3, 4)]])
        self.assertEqual(spans_fed("a{no word edge}", "a aa"), [[], [], [], [(2, 3)], []])
        self.assertEqual(spans_fed("{end}|a", "a"), [[(0, 1)], [(1, 1)]])

    def test_looks_behind_an_answer_told_before(self):
        self.assertEqual(spans_fed("{behind:a}b|a", "aba"), [[(0, 1)], [(1, 2)], [(2, 3)], []])
        self.assertEqual(spans_fed("{not behind:a}a", "aaba"), [[(0, 1)], [], [], [(3, 4)], []])
        self.assertEqual(spans_fed("{behind:ab.*}c|ab", ["abc", "c"]), [[(0, 2), (2, 3)], [(3, 4)], []])

    def test_answers_that_no_continuation_changes(self):
        # Each of these can go on in several ways, but the answer stays the same.
        for pattern, pieces, expected in (
            ("(a|a{ahead:b})", "a", [[(0, 1)], []]), ("a(b[])?", "a", [[(0, 1)], []]), ("a({ahead:b}|{not ahead:b})", "a", [[(0, 1)], []]),
            ("a{ahead:b}|a{not ahead:b}", "a", [[(0, 1)], []]), ("a({end}|[^])?~", "a", [[(0, 1)], []]), ("a({ahead:b}c)?", "a", [[(0, 1)], []]),
            ("a(b{start})?", "a", [[(0, 1)], []]), ("a(b{word edge}c)?", "a", [[(0, 1)], []]), ("a({ahead:b.}{ahead:bc}{not ahead:b[^]})?", "a", [[(0, 1)], []]),
            ("a({ahead:(bb)+c}{ahead:b(bb)*c}b)?", "a", [[(0, 1)], []]), ("a({ahead:(bb)+c}{ahead:(bbb)+c}b)?", "a", [[], [(0, 1)]]),
        ):
            self.assertEqual(spans_fed(pattern, pieces), expected, pattern)

    def test_several_answers_of_one_piece(self):
        self.assertEqual(spans_fed("a{ahead:[^b]*b}|{as x:a}", ["aaa", "b", "a"]), [[], [(0, 1), (1, 2), (2, 3)], [], [(4, 5)]])
        self.assertEqual(spans_fed("a", ["aaa", "", "ba"]), [[(0, 1), (1, 2), (2, 3)], [], [(4, 5)], []])

    def test_rows(self):
        stream = stream_of("({as x:a}|{as y:b})+~c?")
        self.assertEqual([stream.feed("a"), stream.feed("c"), stream.feed("b")], [[], [(0, 2, (("x", 0, 1),))], []])
        self.assertEqual(stream.finish(), [(2, 3, (("y", 2, 3),))])

    def test_not_regular(self):
        for tree in (same("x"), seq(group("x", A), same("x")), seq(group("x", A), look(B), repeat(same("x"), 0, 0))):
            with self.assertRaises(NotRegular):
                Stream(tree)


class DoubtTest(unittest.TestCase):
    def doubts(self, pattern, pieces):
        """Return what `doubt` returns before the first piece and behind each piece."""
        stream = stream_of(pattern)
        found = [stream.doubt()]
        for piece in pieces:
            stream.feed(piece)
            found.append(stream.doubt())
        return found

    def test_the_least_text(self):
        for pattern, pieces, expected in (
            ("a", "ba", ["a", "a", "a"]), ("b|ca", "cc", ["b", "a", "a"]), ("ca|b", "c", ["b", "a"]), ("abc|a", "ab", ["a", "bc", "c"]), ("a+", "aab", ["a", "a", "a", "a"]),
            ("a{end}", "aa", ["a", "\t", "\t"]), ("a{line end}", "a", ["a", "\t"]), ("a{not ahead:b}", "aa", ["a", "b", "b"]), ("a{ahead:.*b}.|a", "ac", ["a", "b", "b"]),
            ("{word edge}", "a ", ["0", "0", "0"]), ("a*", "b", ["a", "a"]), ("|a", "a", ["\t", "\t"]), ("", "", ["\t"]), ("(aa)+", "a", ["aa", "a"]), (".*", "a", ["\t", "\t"]),
            ("a|a{ahead:bc}[^]", "a", ["a", "a"]), ("a{ahead:bc}[^]|a", "a", ["a", "bc"]), ("[^]<3>", "ab", ["\t\t\t", "\t\t", "\t"]),
        ):
            self.assertEqual(self.doubts(pattern, pieces), expected, pattern)

    def test_no_more_answers(self):
        for pattern, pieces, expected in (
            ("{start}a", "ab", ["a", None, None]), ("{start}a", "b", ["a", None]), ("[]", "a", [None, None]), ("{start}", "a", [None, None]), ("{start}a|{behind:{start}b}c", "bc", [
                "a", "c", None,
            ]),
            ("{not behind:a[^]*}b", "ab", ["b", None, None]), ("{not behind:[^]*a}b", "ab", ["b", "\tb", "b"]), ("{start}a?", "b", ["a", None]), ("{start}{end}", "", ["\t"]), ("{start}{end}", "a", ["\t", None]),
            ("a{start}", "a", [None, None]), ("{ahead:b}a", "a", [None, None]),
        ):
            self.assertEqual(self.doubts(pattern, pieces), expected, pattern)

    def test_sure_answers_that_have_not_been_told_count(self):
        # Before the first piece the empty answer at 0 is sure, and behind it another one is doubtful.
        self.assertEqual(stream_of("").doubt(), "\t")
        self.assertEqual(stream_of("|a").doubt(), "\t")
        self.assertIsNone(stream_of("{start}").doubt())
        stream = stream_of("{start}")
        self.assertEqual([stream.doubt(), stream.told, stream.feed(""), stream.told, stream.doubt()], [None, 0, [(0, 0, ())], 1, None])
        stream = stream_of("")
        self.assertEqual([stream.doubt(), stream.finish()], ["\t", [(0, 0, ())]])

    def test_asking_changes_nothing(self):
        for pattern in ("ab|a", "a*", "(a|b)+c|a", "|a"):
            asked, other = stream_of(pattern), stream_of(pattern)
            for piece in ("a", "", "ab", "c", "a"):
                self.assertEqual([asked.doubt(), asked.doubt()][0], asked.doubt())
                self.assertEqual(asked.feed(piece), other.feed(piece))
                self.assertEqual(asked.told, other.told)
            self.assertEqual(asked.finish(), other.finish())

    def test_closed_streams(self):
        stream = stream_of("a+")
        stream.feed("a")
        self.assertEqual(stream.doubt(), "a")
        stream.finish()
        self.assertIsNone(stream.doubt())
        with stream_of("a+") as stream:
            pass
        self.assertIsNone(stream.doubt())

    def test_texts_beyond_the_bounds(self):
        # Continuations count also if the whole text has more than 300 signs.
        stream = stream_of("a+b?")
        self.assertEqual([stream.feed("a" * 300), stream.doubt()], [[], "a"])
        stream = stream_of("b([^]*c)?")
        self.assertEqual([stream.feed("b" * 300), stream.doubt()], [[], "c"])


class BruteForceTest(unittest.TestCase):
    """Compares streams with the scans of all short continuations."""

    def pieces_of(self, chance, text):
        pieces, at = [""] * chance.randrange(2), 0
        while at < len(text):
            step = chance.choice((1, 1, 1, 2, 3))
            pieces.append(text[at:at + step])
            at += step
        return pieces + [""] * chance.randrange(2)

    def check(self, tree, pieces):
        stream, text, told = Stream(tree), "", []
        signs = telling_signs(tree)
        size = 3 if len(signs) <= 5 else 2
        scans = {}
        for piece in pieces:
            text += piece
            told += stream.feed(piece)
            self.assertEqual(stream.told, len(told))
            first = None
            for more in texts_up_to(signs, size):
                found = scans.setdefault(text + more, None) or scan(tree, text + more)
                scans[text + more] = found
                self.assertEqual(found[:len(told)], told, (tree, text, more))
                if first is None and found[len(told):][:1] != scans[text][len(told):][:1]:
                    first = more
            doubt = stream.doubt()
            if doubt is None or len(doubt) <= size:
                self.assertEqual(doubt, first, (tree, text))
            else:
                self.assertIsNone(first, (tree, text, doubt))
                found = scan(tree, text + doubt)
                self.assertNotEqual(found[len(told):][:1], scans[text][len(told):][:1])
            if doubt is None:
                self.assertEqual(scans[text], told)
        told += stream.finish()
        self.assertEqual(told, scan(tree, text))
        self.assertEqual([stream.told, stream.closed], [len(told), True])

    def test_many_trees(self):
        for number, kinds in enumerate((("look", "edge"), ("look",), ("edge",), ())):
            growing = Dense(740 + number, kinds=kinds)
            chance = growing.chance
            for _ in range(130):
                tree = growing.tree(chance.choice((3, 4, 4, 5)))
                if chance.random() < 0.5:
                    tree = seq(A, tree)
                if weight(tree) <= 24:
                    signs = telling_signs(tree) + "aab"
                    text = "".join(chance.choice(signs) for _ in range(chance.randrange(6)))
                    self.check(tree, self.pieces_of(chance, text))

    def test_patterns(self):
        chance = random.Random(741)
        for pattern in (
            "ab|a", "a*b?", "(ab)*a?", "a{ahead:b*a}.|a", "a{not ahead:b*a}.|a", "{word edge}a*", "{line start}.*{line end}", "({behind:a}b|a|)", "a(b|{end})", "a*~b",
            "{as x:a}{as y:b}?|{as x:ab}", "({ahead:.*b}{as x:a}|{ahead:.b}{as y:a}|a)", "(a|b{not ahead:a})*", "{ahead:a.}{ahead:.b}..|a", "a{ahead:[^a]*{end}}|{as x:a}",
        ):
            tree = read_pattern(pattern)
            for text in ("", "a", "ab", "aab", "bab", "a\nb", "abba"):
                self.check(tree, self.pieces_of(chance, text))

    def test_pieces_of_every_length(self):
        text = "abaabb a\nab  abaa"
        for pattern in ("a+b?", "ab|a", "{word}+", "{line start}a|b{line end}", "(a{ahead:b}|{as x:a})", "a*", "(ab)*", "b+~a?"):
            tree = read_pattern(pattern)
            for size in range(1, len(text) + 1):
                stream, told = Stream(tree), []
                for at in range(0, len(text), size):
                    told += stream.feed(text[at:at + size])
                self.assertEqual(told + stream.finish(), scan(tree, text), (pattern, size))


class ClosingTest(unittest.TestCase):
    def test_finish(self):
        stream = stream_of("a")
        self.assertIs(stream.closed, False)
        stream.feed("ab")
        self.assertIs(stream.closed, False)
        stream.finish()
        self.assertIs(stream.closed, True)
        for call in (stream.finish, lambda: stream.feed("a"), lambda: stream.feed("")):
            with self.assertRaises(StreamClosed):
                call()
        self.assertEqual(stream.told, 1)

    def test_told(self):
        stream = stream_of("a+")
        found = [stream.told]
        for piece in ("a", "b", "a", "ba"):
            stream.feed(piece)
            found.append(stream.told)
        stream.finish()
        self.assertEqual(found + [stream.told], [0, 0, 1, 1, 2, 3])

    def test_context_manager(self):
        with stream_of("a") as stream:
            self.assertIsInstance(stream, Stream)
            self.assertEqual(stream.feed("a"), [(0, 1, ())])
            self.assertIs(stream.closed, False)
        self.assertIs(stream.closed, True)
        with self.assertRaises(StreamClosed):
            stream.feed("a")
        with self.assertRaises(StreamClosed):
            stream.finish()
        with stream_of("a") as stream:
            stream.finish()
        self.assertIs(stream.closed, True)

    def test_an_error_in_the_block(self):
        stream = stream_of("a")
        with self.assertRaises(KeyError):
            with stream as entered:
                self.assertIs(entered, stream)
                raise KeyError("x")
        self.assertIs(stream.closed, True)
        self.assertEqual(stream.told, 0)


class DrainTest(unittest.TestCase):
    def test_pieces(self):
        for pieces in ([], [""], ["abc"], ["ab", "", "ca", "b"], list("abaab")):
            stream = stream_of("a+b?")
            expected = scan(read_pattern("a+b?"), "".join(pieces))
            self.assertEqual(drain(stream, pieces), expected)
            self.assertEqual([stream.closed, stream.told], [True, len(expected)])

    def test_limits(self):
        for limit in (None, 3, 4, 10 ** 30):
            self.assertEqual(len(drain(stream_of("a"), ["aa", "a"], limit=limit)), 3)
        for limit in (0, 1, 2):
            stream = stream_of("a")
            with self.assertRaises(TooManyAnswers) as caught:
                drain(stream, ["aa", "a"], limit=limit)
            self.assertEqual(caught.exception.limit, limit)
            self.assertIs(stream.closed, True)
        self.assertEqual(drain(stream_of("a"), ["b"], limit=0), [])

    def test_what_is_told_after_an_error(self):
        stream = stream_of("a")
        with self.assertRaises(TooManyAnswers):
            drain(stream, ["a", "aa", "aaa"], limit=2)
        # The third piece has not been fed.
        self.assertEqual(stream.told, 3)
        stream = stream_of("a+")
        with self.assertRaises(TooManyAnswers):
            drain(stream, ["a", "ba"], limit=1)
        # The second answer was returned by `finish`.
        self.assertEqual([stream.told, stream.closed], [2, True])

    def test_answers_of_earlier_calls_do_not_count(self):
        stream = stream_of("a")
        self.assertEqual(len(stream.feed("aaa")), 3)
        self.assertEqual(drain(stream, ["a"], limit=1), [(3, 4, ())])
        self.assertEqual(stream.told, 4)

    def test_closed_streams(self):
        for pieces in ([], ["a"], ["", ""]):
            for limit in (None, 0, 5):
                stream = stream_of("a")
                stream.finish()
                with self.assertRaises(StreamClosed):
                    drain(stream, pieces, limit=limit)
                self.assertIs(stream.closed, True)

    def test_a_stream_that_has_been_fed(self):
        stream = stream_of("ab|a")
        stream.feed("a")
        self.assertEqual(drain(stream, ["b", "a"]), [(0, 2, ()), (2, 3, ())])

    def test_an_error_among_the_pieces(self):
        stream = stream_of("a")
        with self.assertRaises(TypeError):
            drain(stream, ["a", None])
        self.assertEqual([stream.closed, stream.told], [True, 1])


if __name__ == "__main__":
    unittest.main()
