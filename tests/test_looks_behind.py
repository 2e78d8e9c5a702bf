"""Least texts of trees with looks behind that look back far: points [49], [57], [76] and [98]."""

import random
import time
import unittest

from surespan.acceptance import least_accepted, least_answered, outside, shared
from surespan.alphabet import texts_up_to
from surespan.meaning import accepts, first_answer
from surespan.measures import weight
from surespan.reading import read_pattern
from surespan.scanning import scan
from surespan.streams import Stream
from surespan.twofold import twofold
from surespan.waycounts import whole_ways
from tests.samples import A, B, alt, look, repeat, seq
from tests.test_speed import SECONDS

AB = ("set", "ab")
TEXTS = list(texts_up_to("\tab", 4)) + [text for text in texts_up_to("ab", 7) if len(text) > 4]


class Backward:
    """Makes trees with looks behind, always the same ones for one seed."""

    def __init__(self, seed):
        self.chance = random.Random(seed)

    def sign(self):
        return self.chance.choice([A, B, AB])

    def body(self):
        return self.chance.choice([
            seq(self.sign(), self.sign()), seq(self.sign(), repeat(self.sign(), 0, None), self.sign()),
            seq(A, self.sign(), self.sign()), alt(seq(A, AB, B), B), seq(B, repeat(AB, 0, 2, True)), repeat(seq(A, B), 0, None),
        ])

    def part(self, depth):
        kind = self.chance.randrange(9)
        if kind < 3:
            return look(self.body(), "behind", self.chance.random() < 0.85)
        if kind < 6 or depth == 0:
            return self.sign()
        if kind == 6:
            return repeat(self.part(depth - 1), *self.chance.choice([(0, None), (0, 1), (1, 2), (2, 2)]))
        join = alt if kind == 7 else seq
        return join(self.part(depth - 1), self.part(depth - 1))

    def tree(self):
        return seq(*[self.part(2) for _ in range(self.chance.choice((2, 3, 4)))])


class LooksBehindTest(unittest.TestCase):
    def check(self, found, holds):
        """Check a least text by all texts of a list, in which all short texts are."""
        expected = next((text for text in TEXTS if holds(text)), None)
        if expected is None or len(expected) > 4:
            self.assertTrue(found is None or holds(found))
            self.assertTrue(expected is None or found is not None and len(found) <= len(expected))
        else:
            self.assertEqual(found, expected)

    def test_many_trees(self):
        backward = Backward(490)
        chance = backward.chance
        for _ in range(80):
            tree, other = backward.tree(), backward.tree()
            if weight(tree) > 24 or weight(other) > 24:
                continue
            self.check(least_accepted(tree), lambda text: accepts(tree, text))
            self.check(least_answered(tree), lambda text: first_answer(tree, text) is not None)
            self.check(shared(tree, other), lambda text: accepts(tree, text) and accepts(other, text))
            self.check(outside(tree, other), lambda text: accepts(tree, text) and not accepts(other, text))
            self.check(twofold(tree), lambda text: whole_ways(tree, text) > 1)
            begun = "".join(chance.choice("aab") for _ in range(chance.randrange(5)))
            stream = Stream(tree)
            count = len(stream.feed(begun))
            answer = scan(tree, begun)[count:count + 1]
            self.check(stream.doubt(), lambda text: scan(tree, begun + text)[count:count + 1] != answer)

    def test_far_looks(self):
        begun = time.monotonic()
        far = "b" + "\t" * 18
        for pattern, expected in (
            ("{behind:b.<9>.<9>}c", far + "c"), ("(a|{behind:b.<9>.<9>}c)", "a"), ("{behind:b.<9>}{behind:a.<8>}c", "ba" + "\t" * 8 + "c"),
            ("{behind:b.<9>}{behind:a.<9>}c", None), ("{behind:b.<9>.<4>}c.{behind:d.<4>}e", "b" + "\t" * 10 + "d\t\tc\te"),
        ):
            tree = read_pattern(pattern)
            self.assertEqual(least_answered(tree), expected, pattern)
            self.assertEqual(Stream(tree).doubt(), expected, pattern)
            self.assertEqual(least_accepted(read_pattern(".*(" + pattern + ")")), expected, pattern)
        stream = Stream(read_pattern("{behind:b.<9>.<9>}c"))
        self.assertEqual([stream.feed("abaa"), stream.doubt()], [[], "\t" * 16 + "c"])
        self.assertEqual([stream.feed("a" * 16 + "c"), stream.told], [[(20, 21, ())], 1])
        self.assertEqual(twofold(read_pattern(".*{behind:b.<9>.<9>}(c|c)")), far + "c")
        self.assertLess(time.monotonic() - begun, SECONDS)


if __name__ == "__main__":
    unittest.main()
