"""Nearest texts: points [5], [52], [80] and [81] (surespan.nearest)."""

import random
import unittest

from surespan.alphabet import SIGNS, precedes, texts_up_to
from surespan.cells import cells
from surespan.leastmachine import least_machine, minimized
from surespan.machines import Machine
from surespan.nearest import machine_within, nearest
from surespan.reading import read_pattern
from tests.samples import random_machine
from tests.test_machinejoins import EVERYTHING, NOTHING, ONLY_EMPTY, common_signs, machine_of
from tests.test_machines import LeastFormCase


def distance(text, other):
    """Return the distance of two texts, as it is found by a table: point [80]."""
    row = list(range(len(other) + 1))
    for sign in text:
        new = [row[0] + 1]
        for at, other_sign in enumerate(other):
            new.append(min(row[at] + (sign != other_sign), row[at + 1] + 1, new[at] + 1))
        row = new
    return row[-1]


def nearest_of(accepted, text):
    """Return what `nearest` must return, if the nearest text is one of the list `accepted`, which is in text order."""
    best = None
    for other in accepted:
        found = distance(text, other)
        if best is None or found < best[0]:
            best = (found, other)
    return best


class DistanceTest(unittest.TestCase):
    def test_the_table_of_the_tests(self):
        self.assertEqual([distance("", ""), distance("a", ""), distance("", "ab"), distance("ab", "ba")], [0, 1, 2, 2])
        # One edit inserts, deletes or replaces one sign: so it leads to each text whose distance is 1.
        for text in texts_up_to("ab", 3):
            edits = {text[:at] + sign + text[at:] for at in range(len(text) + 1) for sign in "abc"}
            edits |= {text[:at] + text[at + 1:] for at in range(len(text))}
            edits |= {text[:at] + sign + text[at + 1:] for at in range(len(text)) for sign in "abc"}
            edits -= {text}
            self.assertEqual({other for other in texts_up_to("abc", 4) if distance(text, other) == 1}, edits)


class NearestTest(unittest.TestCase):
    def test_example(self):
        self.assertEqual(nearest(machine_of("a*b"), "cab"), (1, "ab"))

    def test_no_text_is_accepted(self):
        for text in ("", "a", "ab" * 150):
            self.assertIsNone(nearest(NOTHING, text))
            self.assertIsNone(nearest(Machine(tuple(cells(["a"])), ((1, 2), (1, 0), (2, 2)), (False,) * 3), text))
        # The only accepting state is not reached.
        self.assertIsNone(nearest(Machine((SIGNS,), ((0,), (1,)), (False, True)), "a"))

    def test_accepted_texts(self):
        for text in ("", "a", "ab\n", "~" * 300):
            self.assertEqual(nearest(EVERYTHING, text), (0, text))
            self.assertEqual(nearest(ONLY_EMPTY, text), (len(text), ""))
        self.assertEqual(nearest(machine_of("[ab]*"), "abba"), (0, "abba"))

    def test_each_edit(self):
        machine = machine_of("abc")
        for text, expected in (
            ("ab", 1), ("ac", 1), ("bc", 1), ("abxc", 1), ("xabc", 1), ("abcx", 1), ("axc", 1), ("", 3), ("xyz", 3), ("cab", 2),
            ("aabbcc", 3), ("abcabc", 3),
        ):
            self.assertEqual(nearest(machine, text), (expected, "abc"), text)

    def test_the_least_text_among_equally_near_ones(self):
        for pattern, text, expected in (
            # A shorter text comes first, then the signs decide.
            ("ab|abbb", "abb", (1, "ab")), ("ba|ab", "a", (1, "ab")), ("b|a", "c", (1, "a")), ("[b-d]", "", (1, "b")),
            ("[^]", "", (1, "\t")), ("[^]a", "a", (1, "\ta")), ("a[^]|[^]b", "ab", (0, "ab")), ("xa|bx", "ba", (1, "bx")),
            ("b[^]c|a", "bc", (1, "b\tc")), ("b[^]c|a", "ac", (1, "a")), ("a<2>|a<4>", "aaa", (1, "aa")),
            ("[ab]<3>", "ccc", (3, "aaa")), ("[ab]<3>", "cbc", (2, "aba")), ("[ab]<3>", "b", (2, "aab")),
            ("[^b]<3>", "bbb", (3, "\t\t\t")), ("aab|baa", "aba", (2, "aab")),
        ):
            self.assertEqual(nearest(machine_of(pattern), text), expected, (pattern, text))

    def test_signs_of_one_cell(self):
        # The sign itself stays, though another one of its cell comes first.
        self.assertEqual(nearest(machine_of("[a-z]<3>"), "xyzz"), (1, "xyz"))
        self.assertEqual(nearest(machine_of("[a-z]<3>"), "xy"), (1, "axy"))
        self.assertEqual(nearest(machine_of("[a-z]<3>"), "x!z"), (1, "xaz"))

    def test_many_machines(self):
        chance = random.Random(800)
        for _ in range(250):
            machine = random_machine(chance, chance.choice((1, 2, 3, 4, 5)), 3)
            signs = common_signs(machine)
            text = "".join(chance.choice(signs + "z") for _ in range(chance.randrange(5)))
            # Texts are only replaced by signs of the text and least signs of cells.
            accepted = [other for other in texts_up_to("".join(sorted(set(signs + text))), 5) if machine.accepts(other)]
            found = nearest(machine, text)
            if found is None:
                self.assertEqual(accepted, [])
            elif accepted and nearest_of(accepted, text)[0] + len(text) <= 5:
                self.assertEqual(found, nearest_of(accepted, text), (machine.rows, text))
            else:
                self.assertTrue(machine.accepts(found[1]))
                self.assertEqual(distance(text, found[1]), found[0])

    def test_many_trees(self):
        for pattern in ("(ab|ba)*", "a*b*a*", "[ab]*bb[ab]*", "(a|bb)<2,4>", "(aa|b[ab]b)+", "b|(ab)<2>"):
            machine = machine_of(pattern)
            accepted = [other for other in texts_up_to("abc", 7) if machine.accepts(other)]
            for text in list(texts_up_to("abc", 4)):
                self.assertEqual(nearest(machine, text), nearest_of(accepted, text), (pattern, text))

    def test_long_texts(self):
        machine = machine_of("(ab)*")
        self.assertEqual(nearest(machine, "ab" * 150), (0, "ab" * 150))
        self.assertEqual(nearest(machine, "a" * 300), (150, "ab" * 150))
        self.assertEqual(nearest(machine, "abc" * 100), (100, "ab" * 100))
        self.assertEqual(nearest(machine_of("a<9>b<9>"), "x" * 300), (300, "a" * 9 + "b" * 9))
        self.assertEqual(nearest(machine_of("([^a]*a)<7>[^a]*"), "a" * 300), (293, "a" * 7))
        chance = random.Random(801)
        text = "".join(chance.choice("ab") for _ in range(300))
        found = nearest(machine_of("(a|bb)*"), text)
        self.assertEqual(distance(text, found[1]), found[0])
        self.assertTrue(machine_of("(a|bb)*").accepts(found[1]))


class WithinTest(LeastFormCase):
    def check(self, machine, size=4):
        """Check the machines for the distances 0, 1 and 2 by the distances that `nearest` tells."""
        results = [machine_within(machine, most) for most in range(3)]
        self.assertEqual(results[0], minimized(machine))
        for result in results:
            self.check_form(result)
        for text in texts_up_to(common_signs(machine), size):
            found = nearest(machine, text)
            expected = [found is not None and found[0] <= most for most in range(3)]
            self.assertEqual([result.accepts(text) for result in results], expected, text)
        self.assertEqual(machine_within(results[1], 1) if len(results[1]) <= 8 else results[2], results[2])

    def test_machines_of_trees(self):
        for pattern, most, expected in (
            ("", 1, "[^]?"), ("", 2, "[^]<0,2>"), ("a", 1, "[^]?|a[^]|[^]a"), ("a*", 1, "a*[^]?a*"), ("[^]<3>", 1, "[^]<2,4>"),
            ("ab", 1, "[^]?ab|a[^]b|ab[^]|[^]b|a[^]|a|b"), ("a*b", 0, "a*b"), ("[^]<3>", 2, "[^]<1,5>"),
        ):
            self.assertEqual(machine_within(machine_of(pattern), most), machine_of(expected), (pattern, most))

    def test_nothing_only_the_empty_text_and_everything(self):
        for most in range(3):
            self.assertEqual(machine_within(NOTHING, most), NOTHING)
            self.assertEqual(machine_within(EVERYTHING, most), EVERYTHING)
            self.assertEqual(machine_within(ONLY_EMPTY, most), machine_of("[^]<0,{}>".format(most)))

    def test_by_distances_to_accepted_texts(self):
        for pattern in ("ab|ba", "a<2>b?", "(ab)<0,2>", "b|aab"):
            accepted = [text for text in texts_up_to("ab", 4) if machine_of(pattern).accepts(text)]
            for most in range(3):
                result = machine_within(machine_of(pattern), most)
                for text in texts_up_to("abc", 5):
                    expected = any(distance(text, other) <= most for other in accepted)
                    self.assertEqual(result.accepts(text), expected, (pattern, text))

    def test_machines_of_more_trees(self):
        for pattern in ("(ab)*", "a*b*", "(a|bb)*", "[ab]*bb", "(a<3>)*", "a|b<3>"):
            self.check(machine_of(pattern), 5)

    def test_many_machines(self):
        chance = random.Random(810)
        for _ in range(80):
            self.check(random_machine(chance, chance.choice((1, 2, 3, 4, 5)), 3))
        for _ in range(20):
            self.check(random_machine(chance, 8, 3), 3)

    def test_texts_are_nearer_than_longer_ones(self):
        self.assertTrue(precedes("ab", "abc"))
        self.assertEqual(nearest(machine_within(machine_of("abc"), 1), "abc"), (0, "abc"))
        self.assertEqual(nearest(machine_within(machine_of("abc"), 1), "abcde"), (1, "abcd"))
        self.assertEqual(nearest(least_machine(read_pattern("abc")), "abcde"), (2, "abc"))


if __name__ == "__main__":
    unittest.main()
