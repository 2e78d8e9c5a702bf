"""Scans, replacements and streams at the bounds are answered in seconds: point [98]."""

import random
import time
import unittest

from surespan.alphabet import SIGNS
from surespan.measures import weight
from surespan.reading import read_pattern
from surespan.replacestreams import ReplaceStream
from surespan.replacing import replace_all
from surespan.scanning import find, scan
from surespan.splitting import split_text
from surespan.streams import Stream, drain
from surespan.templates import read_template, write_template
from surespan.trees import is_regular
from tests.samples import repeat
from tests.test_speed import BOUNDS, CAPTURING, LONG, LOOKING, PATTERNS, REPEATING, SECONDS
from tests.test_speed_counts import MORE
from tests.test_speed_tables import FOUR_LOOKS, HEAVY

# Much of the text must have arrived before answers are sure, or it takes a long text to change them.
LATE = [
    "a{ahead:[^b]*b}|{as x:a}", "({ahead:.<7>b}a|a)*", "({ahead:.<7>b}a|a)", "x([ab]*c[ab]<9>[ab]<9>)?", "x([ab]*a[ab]<9>[ab]<9>|[ab]+)?~",
    "[ab]*a[ab]<9>[ab]<9>c", "[ab]*~a[ab]<9>[ab]<9>c|a", "(.*a.<9>)?b", "a(.*b.<9>.<9>)?~c", "({ahead:.*a.<7>b}x|{not ahead:.*b.<8>a}y|a)",
    "a{not ahead:.*a.<8>b}|{as x:a}", "a{not ahead:[ab]*a[ab]<8>}|{as x:a}", "({word}+{blank}*)*~{end}", "{line start}.*{line end}", "[^]*b", "([^]*b)?",
    "{ahead:(a<3>)*b}a{ahead:(a<4>)*b}|{ahead:(a<5>)*b}{as x:a}", "a(({ahead:[ab]*a[ab]<5>c}|{ahead:[ab]*b[ab]<5>c})[abc]*|d)?",
    "({ahead:.<9>.<9>b}a|[ab])*", "({ahead:.<8>b}a|{ahead:.<8>c}a|a)*", "({ahead:.<9>b}{as x:a}|a)*", "({not ahead:.<9>b}a|{ahead:.<8>b}a)*",
    "a{ahead:([^]*a[^]<6>|[^]*[^a][^]<6>|[^]<0,6>){end}}|{as x:a}",
]


class SpeedTest(unittest.TestCase):
    def setUp(self):
        begun = time.monotonic()
        self.addCleanup(lambda: self.assertLess(time.monotonic() - begun, SECONDS))
        chance = random.Random(98)
        self.texts = [LONG, LONG[:299] + "b", "x" + "ab" * 149 + "c"]
        self.texts += ["".join(chance.choice(signs) for _ in range(300)) for signs in ("ab", "abcd\n x")]

    def test_scans_and_replacements(self):
        template = read_template("<{}>")
        for number, pattern in enumerate(PATTERNS + LOOKING + CAPTURING + BOUNDS + HEAVY + FOUR_LOOKS + MORE + LATE):
            tree = read_pattern(pattern)
            text = self.texts[number % 5]
            found = scan(tree, text)
            self.assertEqual(replace_all(tree, template, text).count("<"), text.count("<") + len(found))
            self.assertEqual(len(split_text(tree, text)), 1 + len([1 for start, end, _ in found if end > start]))
            self.assertEqual(find(tree, text) is None, not found)

    def test_trees_that_are_not_regular(self):
        trees = [tree for tree in [read_pattern(pattern) for pattern in REPEATING[:-1]] if not is_regular(tree)]
        self.assertGreater(len(trees), 4)
        for tree in trees:
            self.assertEqual(scan(tree, LONG), [])
            self.assertEqual(replace_all(tree, (), LONG), LONG)
        self.assertEqual(len(scan(read_pattern("{as x:[ab]}{same x}*"), "aab" * 100)), 200)

    def test_long_templates(self):
        text = "{abcdefghijkl|" + "\\|" * 100 + "}" + "\\n" * 50
        self.assertEqual(write_template(read_template(text)), text)

    def check_stream(self, tree, text, size):
        """Check the answers of a stream, with what it says of its doubts behind each piece."""
        stream, told = Stream(tree), []
        for at in range(0, len(text), size):
            told += stream.feed(text[at:at + size])
            stream.doubt()
        self.assertEqual(told + stream.finish(), scan(tree, text))

    def test_streams_sign_by_sign(self):
        for pattern in LOOKING + CAPTURING + HEAVY + FOUR_LOOKS + MORE:
            tree = read_pattern(pattern)
            self.assertLessEqual(weight(tree), 24)
            for text in self.texts[1:4:2]:
                self.check_stream(tree, text, 1)

    def test_streams_with_late_answers(self):
        for pattern in LATE:
            tree = read_pattern(pattern)
            self.assertLessEqual(weight(tree), 24)
            for text in self.texts[1::2]:
                self.check_stream(tree, text, 1)

    def test_streams_in_long_pieces(self):
        for number, pattern in enumerate(LOOKING + CAPTURING + HEAVY + FOUR_LOOKS + MORE + LATE):
            self.check_stream(read_pattern(pattern), self.texts[number % 5], 150)

    def test_streams_with_many_cells(self):
        chance = random.Random(96)

        def sets(count):
            return tuple(("set", "".join(sorted(chance.sample(SIGNS, 48)))) for _ in range(count))

        text = "".join(chance.choice(SIGNS) for _ in range(300))
        for tree in (
            ("seq", (repeat(sets(1)[0], 0, None),) + sets(9)), ("alt", (("seq", (repeat(sets(1)[0], 0, None),) + sets(5)), sets(1)[0])),
            repeat(("alt", (("seq", sets(3)), ("group", "x", ("seq", sets(4))), ("seq", sets(2)))), 0, None),
            ("alt", tuple(("seq", (repeat(sets(1)[0], 0, None),) + sets(1)) for _ in range(12))),
            ("seq", (("look", "ahead", True, ("seq", sets(5))), ("look", "ahead", False, ("seq", sets(5))), repeat(sets(1)[0], 0, None))),
        ):
            self.check_stream(tree, text, 1)

    def test_replacement_in_pieces(self):
        template = read_template("[{}]")
        for pattern in LATE + HEAVY:
            tree = read_pattern(pattern)
            stream, found = ReplaceStream(tree, template), ""
            for at in range(0, 300, 7):
                found += stream.feed(self.texts[3][at:at + 7])
            self.assertEqual(found + stream.finish(), replace_all(tree, template, self.texts[3]))
            self.assertEqual(drain(Stream(tree), list(self.texts[3])), scan(tree, self.texts[3]))


if __name__ == "__main__":
    unittest.main()
