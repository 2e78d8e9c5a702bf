"""Counted and numbered texts, and cycles of lengths: points [5], [60] and [61] (surespan.textcounts)."""

import itertools
import random
import unittest

from surespan.alphabet import SIGNS, precedes, texts_up_to
from surespan.cells import cells
from surespan.errors import NoSuchText
from surespan.machines import Machine
from surespan.textcounts import accepted_texts, count_texts, length_cycle, number_of, text_at
from tests.samples import random_machine
from tests.test_machinejoins import EVERYTHING, NOTHING, ONLY_EMPTY, machine_of


def few_signs(chance, states):
    """Return a machine made at random that accepts texts over three signs only, and the list of those up to 5 signs."""
    division = tuple(cells(["\n", "a", "b"]))
    # State 0 is the start; the last state stands for all texts with other signs.
    rows = [tuple(states if cell[0] == "\t" else chance.randrange(states + 1) for cell in division) for _ in range(states)]
    rows.append((states,) * len(division))
    machine = Machine(division, tuple(rows), tuple(chance.random() < 0.4 for _ in range(states)) + (False,))
    return machine, [text for text in texts_up_to("\nab", 5) if machine.accepts(text)]


def lengths_of(machine, size):
    """Return a list that tells for the lengths below a size whether an accepted text has this length."""
    found, states = [], {0}
    for _ in range(size):
        found.append(any(machine.accepting[state] for state in states))
        states = {target for state in states for target in machine.rows[state]}
    return found


class CountTest(unittest.TestCase):
    def test_example(self):
        self.assertEqual(count_texts(machine_of("[ab]<1,2>"), 2), 4)

    def test_lengths(self):
        machine = machine_of("[ab]<1,2>|c<4>")
        self.assertEqual([count_texts(machine, length) for length in range(6)], [0, 2, 4, 0, 1, 0])
        self.assertEqual([count_texts(machine_of(""), length) for length in (0, 1, 300)], [1, 0, 0])
        self.assertEqual([count_texts(NOTHING, length) for length in (0, 1, 300)], [0, 0, 0])

    def test_large_numbers(self):
        self.assertEqual([count_texts(EVERYTHING, length) for length in (0, 1, 2, 300)], [1, 96, 96 ** 2, 96 ** 300])
        self.assertEqual(count_texts(machine_of("[ab]*"), 300), 2 ** 300)
        self.assertEqual(count_texts(machine_of("[^]*a[^]*"), 300), 96 ** 300 - 95 ** 300)
        self.assertEqual(count_texts(machine_of("(a|b[^])*"), 3), 1 + 2 * 96)

    def test_many_machines(self):
        chance = random.Random(600)
        for _ in range(150):
            machine, accepted = few_signs(chance, chance.choice((1, 2, 3, 5)))
            lengths = [len(text) for text in accepted]
            self.assertEqual([count_texts(machine, size) for size in range(6)], [lengths.count(size) for size in range(6)])


class NumberTest(unittest.TestCase):
    def test_examples(self):
        self.assertEqual(text_at(machine_of("[ab]*"), 4), "ab")
        with self.assertRaises(NoSuchText) as caught:
            text_at(machine_of("a?"), 2)
        self.assertEqual(caught.exception.count, 2)
        self.assertEqual(number_of(machine_of("[ab]*"), "c"), 3)

    def test_text_order(self):
        machine = machine_of("b|a|ab|aa|\n|abc|")
        self.assertEqual([text_at(machine, number) for number in range(7)], ["", "\n", "a", "b", "aa", "ab", "abc"])
        self.assertEqual([text_at(EVERYTHING, number) for number in (0, 1, 2, 96, 97, 98)], ["", "\t", "\n", "~", "\t\t", "\t\n"])

    def test_no_such_text(self):
        for pattern, count in (("[]", 0), ("", 1), ("a?", 2), ("[ab]<0,3>", 15), ("a<9>|b<5>", 2), ("[^]<2>", 96 ** 2), ("a[]|b", 1)):
            for number in (count, count + 1, count + 100, 10 ** 30):
                with self.assertRaises(NoSuchText) as caught:
                    text_at(machine_of(pattern), number)
                self.assertEqual(caught.exception.count, count, pattern)
            if count:
                self.assertTrue(machine_of(pattern).accepts(text_at(machine_of(pattern), count - 1)))
        # A loop from which no accepting state is reached, and one that is not reached itself.
        division = tuple(cells(["a"]))
        machine = Machine(division, ((1, 2), (1, 1), (1, 1), (3, 3)), (True, False, True, True))
        self.assertEqual([text_at(machine, 0), text_at(machine, 1)], ["", "a"])
        with self.assertRaises(NoSuchText) as caught:
            text_at(machine, 2)
        self.assertEqual(caught.exception.count, 2)

    def test_machines_with_few_lengths(self):
        machine = machine_of("(a<9>)*")
        self.assertEqual([text_at(machine, number) for number in (0, 1, 2, 30)], ["", "a" * 9, "a" * 18, "a" * 270])
        self.assertEqual([number_of(machine, "a" * size) for size in (0, 1, 9, 10, 270, 300)], [0, 1, 1, 2, 30, 34])
        self.assertEqual(text_at(machine_of("a*"), 300), "a" * 300)

    def test_large_numbers(self):
        for machine in (EVERYTHING, machine_of("[ab]*"), machine_of("({word}+ )*"), machine_of("[^]*a[^]*")):
            for number in (10 ** 30, 10 ** 29 + 7, 10 ** 12, 95, 0):
                text = text_at(machine, number)
                self.assertTrue(machine.accepts(text))
                self.assertEqual(number_of(machine, text), number)
        self.assertEqual(number_of(machine_of("[ab]*"), "b" * 300), 2 ** 301 - 2)
        self.assertEqual(number_of(machine_of("[ab]*"), "~" * 300), 2 ** 301 - 1)

    def test_texts_that_are_not_accepted(self):
        machine = machine_of("[ac]b|b")
        for text, number in (("", 0), ("a", 0), ("b", 0), ("c", 1), ("aa", 1), ("ab", 1), ("ac", 2), ("bb", 2), ("cb", 2), ("cc", 3), ("aaa", 3)):
            self.assertEqual(number_of(machine, text), number, text)
        self.assertEqual([number_of(NOTHING, text) for text in ("", "a", "~" * 300)], [0, 0, 0])
        self.assertEqual([number_of(ONLY_EMPTY, text) for text in ("", "\t", "~" * 300)], [0, 1, 1])

    def test_many_machines(self):
        chance = random.Random(601)
        for _ in range(150):
            machine, accepted = few_signs(chance, chance.choice((1, 2, 3, 5)))
            for number, text in enumerate(accepted):
                self.assertEqual(text_at(machine, number), text)
            for text in texts_up_to("\t\nabc", 3):
                expected = sum(precedes(other, text) for other in accepted)
                self.assertEqual(number_of(machine, text), expected, (machine.rows, text))

    def test_machines_over_all_signs(self):
        chance = random.Random(602)
        for _ in range(60):
            machine = random_machine(chance, chance.choice((1, 2, 3, 5, 40)))
            number = chance.choice((3, 50, 7000, 10 ** 20))
            try:
                text = text_at(machine, number)
            except NoSuchText as error:
                self.assertLessEqual(error.count, number)
                self.assertEqual(len(list(accepted_texts(machine, 1000))), min(error.count, 1000))
            else:
                self.assertTrue(machine.accepts(text))
                self.assertEqual(number_of(machine, text), number)


class AcceptedTextsTest(unittest.TestCase):
    def test_first_texts(self):
        self.assertEqual(list(accepted_texts(machine_of("[ab]*"), 8)), ["", "a", "b", "aa", "ab", "ba", "bb", "aaa"])
        self.assertEqual(list(accepted_texts(machine_of("a<2>|c|b"), 2)), ["b", "c"])
        self.assertEqual(list(accepted_texts(EVERYTHING, 98)), ["", *SIGNS, "\t\t"])

    def test_ends_when_there_are_no_more(self):
        self.assertEqual(list(accepted_texts(machine_of("a<2>|c|b"), 1000)), ["b", "c", "aa"])
        self.assertEqual(list(accepted_texts(NOTHING, 1000)), [])
        self.assertEqual(list(accepted_texts(ONLY_EMPTY, 1000)), [""])
        self.assertEqual(list(accepted_texts(machine_of("a<9>"), 5)), ["a" * 9])

    def test_no_texts_are_asked_for(self):
        for machine in (EVERYTHING, NOTHING, machine_of("a*")):
            self.assertEqual(list(accepted_texts(machine, 0)), [])

    def test_gaps_between_lengths(self):
        self.assertEqual(list(accepted_texts(machine_of("(a<9>)+"), 3)), ["a" * 9, "a" * 18, "a" * 27])
        rows = tuple(((state + 1) % 40,) for state in range(40))
        machine = Machine((SIGNS,), rows, tuple(state == 39 for state in range(40)))
        self.assertEqual(list(accepted_texts(machine, 2)), ["\t" * 39, "\t" * 38 + "\n"])

    def test_a_generator(self):
        found = accepted_texts(machine_of("a*"), 1000)
        self.assertEqual(list(itertools.islice(found, 3)), ["", "a", "aa"])
        self.assertEqual(next(found), "aaa")
        self.assertIs(iter(found), found)

    def test_one_machine_read_by_two_generators_at_once(self):
        machine = machine_of("[ab]*")
        first, second = accepted_texts(machine, 5), accepted_texts(machine, 3)
        found = [next(first), next(first), next(second), next(first), next(second), next(second), next(first), next(first)]
        self.assertEqual(found, ["", "a", "", "b", "a", "b", "aa", "ab"])
        self.assertEqual([list(first), list(second)], [[], []])

    def test_many_machines(self):
        chance = random.Random(603)
        for _ in range(100):
            machine, accepted = few_signs(chance, chance.choice((1, 2, 3, 5)))
            self.assertEqual(list(accepted_texts(machine, len(accepted))), accepted)
            found = list(accepted_texts(machine, 1000)) if chance.random() < 0.2 else []
            self.assertEqual(found[:len(accepted)], accepted[:len(found)])
            self.assertTrue(all(precedes(text, other) for text, other in zip(found, found[1:])))


class LengthCycleTest(unittest.TestCase):
    def check(self, machine):
        head, loop = length_cycle(machine)
        self.assertTrue(type(head) is type(loop) is tuple and len(loop) > 0)
        self.assertTrue(all(value is True or value is False for value in head + loop))
        size = len(head) + 3 * len(loop) + 20
        told = lengths_of(machine, size)
        self.assertEqual([head[n] if n < len(head) else loop[(n - len(head)) % len(loop)] for n in range(size)], told)
        # No shorter loop repeats what the loop tells, and no shorter head goes with the loop.
        for length in range(1, len(loop)):
            self.assertNotEqual(loop, tuple(loop[at % length] for at in range(len(loop))) if len(loop) % length == 0 else None)
        if head:
            self.assertNotEqual(head[-1], loop[-1])
        return head, loop

    def test_example(self):
        self.assertEqual(length_cycle(machine_of("aa(aaa)*")), ((), (False, False, True)))

    def test_simple_machines(self):
        for pattern, head, loop in (
            ("", "1", "0"), ("[]", "", "0"), ("[^]*", "", "1"), ("a", "01", "0"), ("a+", "0", "1"), ("(aa)*", "", "10"), ("a(aa)*", "", "01"),
            ("a<2,4>", "00111", "0"), ("(a<4>)*|(a<2>)*", "", "10"), ("a?b<3>(c<2>)*", "000", "1"), ("a|(a<2>)*", "11", "10"), ("a<2>|(a<2>)*", "", "10"),
            ("(a<3>)+", "0", "001"), ("(a|b<2>)*c", "0", "1"), ("(aa)*b(bb)*", "", "01"), ("(aa)*|b(bb)*", "", "1"),
        ):
            expected = tuple(tuple(sign == "1" for sign in text) for text in (head, loop))
            self.assertEqual(self.check(machine_of(pattern)), expected, pattern)

    def test_machines_that_accept_nothing(self):
        self.assertEqual(length_cycle(NOTHING), ((), (False,)))
        machine = Machine(tuple(cells(["a"])), ((1, 2), (1, 0), (2, 2), (3, 3)), (False, False, False, True))
        self.assertEqual(length_cycle(machine), ((), (False,)))

    def test_several_rings(self):
        self.assertEqual(self.check(machine_of("(a<2>)*|(b<3>)*")), ((), (True, False, True, True, True, False)))
        head, loop = self.check(machine_of("(a<2>)+|(b<3>)+|(c<5>)+"))
        self.assertEqual([head, len(loop)], [(False,), 30])
        # Rings of the lengths 3, 4, 5, 7, 11 and 9, entered from state 0 by different signs.
        sizes = (3, 4, 5, 7, 11)
        division = tuple(cells(list("abcd")))
        rows, accepting, firsts = [], [False], []
        for size in sizes:
            firsts.append(1 + len(rows))
            rows.extend((firsts[-1] + (at + 1) % size,) * 5 for at in range(size))
            accepting.extend(at == 0 for at in range(size))
        machine = Machine(division, (tuple(firsts),) + tuple(rows), tuple(accepting))
        head, loop = self.check(machine)
        self.assertEqual(len(loop), 3 * 4 * 5 * 7 * 11)
        self.assertEqual(sum(loop), 4620 - 2 * 3 * 4 * 6 * 10)

    def test_a_long_head(self):
        # The ring has 5 states, and a text may leave it after each turn for one with 7 states.
        self.check(machine_of("(a<5>)*(b<7>)*"))
        head, loop = self.check(machine_of("((a<5>)|(b<7>))*"))
        self.assertEqual([len(head), loop], [24, (True,)])

    def test_many_machines(self):
        chance = random.Random(604)
        for _ in range(300):
            self.check(random_machine(chance, chance.choice((1, 2, 3, 5, 8, 20, 40)), 2))


if __name__ == "__main__":
    unittest.main()
