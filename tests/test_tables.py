"""Tables: points [8], [14], [28], [29] and [41] to [43]."""

import unittest

from surespan.alphabet import SIGNS, texts_up_to
from surespan.errors import NotRegular, TooManyStates
from surespan.meaning import first_answer, first_way
from surespan.reading import read_pattern
from surespan.tables import Table
from surespan.trees import is_regular
from tests import reference
from tests.samples import A, B, dense_cases, group, look, repeat, same, seq, trees_of_each_form

MODES = ("search", "here", "whole")
PATTERNS = [
    "", "a", "[]", "a*b", "(a|b)*abb", "a?~b", "{start}a", "a{end}", "{start}{end}", "(.|\n)*{line start}b", "b{line end}",
    "{word edge}[ab]+{word edge}", "({no word edge}.)*", "{behind:a}b", "{not behind:a}.", "{ahead:ab}a", "({not ahead:ab}.)*",
    "({ahead:.*b}a|a)*", "{as x:a}|{as y:b}a", "({as x:a}|b)*", "({as x:a*}{as y:b?})*b", "((a?)*)*b", "(|a)<2,>",
    "({ahead:a{end}}{as x:a}|a)*~{end}", "{behind:{start}a*}b", "({ahead:{line end}}a|{behind:b}b|.)*",
]
TEXTS = ["", "a", "b", "ab", "ba", "aab", "abb", "aabb", "b\na", "a b", "\nb", "ab\nab", "babab", "aaaa"]


def corresponding(index, other, length, other_length):
    """Tell whether two indexes correspond behind texts of these lengths: point [43]."""
    if index <= length and other <= other_length:
        return True
    return index > length and index - length == other - other_length


def later_spans(row, length):
    return {name: (start, end) for name, start, end in row if end > length}


def expected_result(tree, text, mode):
    if mode == "search":
        return first_answer(tree, text)
    way = first_way(tree, text, whole=mode == "whole")
    return None if way is None else (0,) + way


class AnswerTest(unittest.TestCase):
    def test_example(self):
        table = Table(read_pattern("{as x:a*}b"), mode="here")
        self.assertEqual(table.answer("aab"), (0, 3, (("x", 0, 2),)))

    def test_the_three_modes(self):
        tree = read_pattern("{as x:b}+~")
        self.assertEqual(Table(tree).answer("abb"), (1, 2, (("x", 1, 2),)))
        self.assertEqual(Table(tree, mode="search").answer("abb"), (1, 2, (("x", 1, 2),)))
        self.assertIsNone(Table(tree, mode="here").answer("abb"))
        self.assertEqual(Table(tree, mode="here").answer("bba"), (0, 1, (("x", 0, 1),)))
        self.assertIsNone(Table(tree, mode="whole").answer("bba"))
        self.assertEqual(Table(tree, mode="whole").answer("bbb"), (0, 3, (("x", 2, 3),)))

    def test_patterns(self):
        for pattern in PATTERNS:
            tree = read_pattern(pattern)
            for mode in MODES:
                table = Table(tree, mode=mode)
                for text in TEXTS + TEXTS[::-1]:
                    self.assertEqual(table.answer(text), expected_result(tree, text, mode), (pattern, text, mode))

    def test_trees_of_each_form(self):
        for tree in trees_of_each_form():
            if is_regular(tree):
                for mode in MODES:
                    table = Table(tree, mode=mode)
                    for text in ("", "a", "ab", "\n", "ba", "aaaaaaaaaa"):
                        self.assertEqual(table.answer(text), reference.result(tree, text, mode), (tree, text, mode))

    def test_many_trees(self):
        for kinds in (("look", "edge"), ()):
            for tree, text, _ in dense_cases(41, 1200, kinds=kinds):
                for mode in MODES:
                    found = Table(tree, mode=mode).answer(text)
                    self.assertEqual(found, expected_result(tree, text, mode), (tree, text, mode))

    def test_repeats_whose_body_can_be_empty(self):
        for outer in ("*", "*~", "+", "<2,>", "<2,3>", "?~"):
            for inner in ("*", "*~", "+~", "<2>", "?", "?~"):
                for body in ("a", "(|a)", "{as x:a?~}", "{start}", "({ahead:a}|b)"):
                    tree = read_pattern("((" + body + ")" + inner + ")" + outer + "b")
                    for mode in MODES:
                        table = Table(tree, mode=mode)
                        for text in ("", "b", "aab", "aba"):
                            self.assertEqual(table.answer(text), expected_result(tree, text, mode), (tree, text))

    def test_not_regular(self):
        for tree in (same("x"), seq(group("x", A), same("x")), seq(group("x", A), look(B), repeat(same("x"), 0, 0))):
            for mode in MODES:
                with self.assertRaises(NotRegular):
                    Table(tree, mode=mode)
            with self.assertRaises(NotRegular):
                Table(tree)


class StateTest(unittest.TestCase):
    def test_state_0(self):
        for pattern in PATTERNS:
            for mode in MODES:
                table = Table(read_pattern(pattern), mode=mode)
                self.assertEqual(table.states, 1)
                self.assertEqual(table.state_after(""), 0)
                table.answer("")
                self.assertEqual(table.states, 1)

    def test_numbers_in_the_order_in_which_the_states_are_first_met(self):
        for pattern in PATTERNS:
            for mode in MODES:
                table = Table(read_pattern(pattern), mode=mode)
                known = 1
                for text in texts_up_to("\nab", 3):
                    for size in range(len(text) + 1):
                        number = table.state_after(text[:size])
                        self.assertTrue(0 <= number <= known, (pattern, mode, text))
                        known = max(known, number + 1)
                        self.assertEqual(table.states, known)

    def test_a_text_that_is_read_meets_its_states_and_no_others(self):
        read_by = [lambda table, text: table.answer(text), lambda table, text: table.state_after(text)]
        for pattern in PATTERNS:
            for read in read_by:
                table, other = Table(read_pattern(pattern)), Table(read_pattern(pattern))
                read(table, "ab")
                state = 0
                for sign in "ab":
                    state = other.follow(state, sign)
                self.assertEqual(table.states, other.states)
                self.assertEqual(table.state_after("ab"), state)
                self.assertEqual(len({0, other.state_after("a"), state}), table.states)

    def test_numbers_depend_on_what_is_read_first(self):
        table, other = Table(read_pattern("ab"), mode="here"), Table(read_pattern("ab"), mode="here")
        self.assertEqual([table.state_after("a"), table.state_after("b")], [1, 2])
        self.assertEqual([other.state_after("b"), other.state_after("a")], [1, 2])
        self.assertEqual([table.state_after("a"), table.state_after("b"), table.states], [1, 2, 3])

    def test_follow(self):
        for pattern in PATTERNS:
            for mode in MODES:
                table = Table(read_pattern(pattern), mode=mode)
                for text in texts_up_to("\nab", 3):
                    for sign in "\n ab":
                        number = table.follow(table.state_after(text), sign)
                        self.assertEqual(number, table.state_after(text + sign))

    def test_division(self):
        for pattern in PATTERNS:
            table = Table(read_pattern(pattern))
            division = table.division
            self.assertIs(type(division), list)
            self.assertEqual(sorted("".join(division)), list(SIGNS))
            self.assertTrue(all(cell and list(cell) == sorted(cell) for cell in division))
            self.assertEqual([cell[0] for cell in division], sorted(cell[0] for cell in division))
        # Signs that the tree tells apart are in different cells.
        self.assertGreaterEqual(len(Table(read_pattern("[ab][bc]")).division), 4)
        self.assertGreaterEqual(len(Table(read_pattern("{line end}")).division), 2)
        self.assertGreaterEqual(len(Table(read_pattern("{ahead:{word edge}a}.")).division), 3)
        table = Table(read_pattern("ab"))
        changed = table.division
        changed.clear()
        self.assertGreaterEqual(len(table.division), 3)
        self.assertEqual(table.answer("ab"), (0, 2, ()))

    def test_each_sign_of_a_cell_leads_to_the_same_state(self):
        for pattern in PATTERNS:
            for mode in MODES:
                table = Table(read_pattern(pattern), mode=mode)
                table.complete(10 ** 30)
                for state in range(table.states):
                    for cell in table.division:
                        self.assertEqual(len({table.follow(state, sign) for sign in cell}), 1, (pattern, mode, cell))

    def test_complete(self):
        for pattern in PATTERNS:
            for mode in MODES:
                table = Table(read_pattern(pattern), mode=mode)
                count = table.complete(10 ** 30)
                self.assertEqual(count, table.states)
                self.assertEqual(table.complete(count), count)
                for text in texts_up_to("\n ab", 3):
                    table.answer(text)
                self.assertEqual(table.states, count)
                self.assertEqual(Table(read_pattern(pattern), mode=mode).complete(count), count)

    def test_too_many_states(self):
        for pattern in ("abc", "(a|b)*a(a|b)<3>", "a*", "{ahead:a.b}[ab]*", "[]"):
            for mode in MODES:
                count = Table(read_pattern(pattern), mode=mode).complete(10 ** 30)
                for limit in range(count):
                    table = Table(read_pattern(pattern), mode=mode)
                    with self.assertRaises(TooManyStates) as caught:
                        table.complete(limit)
                    self.assertEqual(caught.exception.limit, limit)
                    met = table.states
                    self.assertTrue(max(limit, 1) <= met <= count)
                    with self.assertRaises(TooManyStates):
                        table.complete(limit)
                    self.assertEqual(table.states, met)
                    self.assertEqual(table.complete(count), count)

    def test_states_stay_met_behind_an_error(self):
        table = Table(read_pattern("abcd"))
        found = [table.state_after(text) for text in ("abc", "ab", "a", "")]
        for limit in (0, 1, 2, 3):
            with self.assertRaises(TooManyStates):
                table.complete(limit)
        self.assertEqual([table.state_after(text) for text in ("abc", "ab", "a", "")], found)
        self.assertGreaterEqual(table.states, 4)
        self.assertEqual(table.answer("xabcd"), (1, 5, ()))

    def test_the_number_of_states_in_the_end_does_not_depend_on_the_texts_read(self):
        for tree, text, _ in dense_cases(42, 250, kinds=("look", "edge"), depths=(3, 4, 4)):
            for mode in MODES:
                fresh, used = Table(tree, mode=mode), Table(tree, mode=mode)
                for other in (text, text[::-1], "ba\nab a", "zz"):
                    used.answer(other)
                    used.state_after(other + text)
                self.assertEqual(used.complete(10 ** 6), fresh.complete(10 ** 6), (tree, mode))

    def test_few_states_are_enough_for_simple_trees(self):
        self.assertLessEqual(Table(read_pattern("a*"), mode="whole").complete(3), 3)
        self.assertLessEqual(Table(read_pattern("abc")).complete(5), 5)
        self.assertLessEqual(Table(read_pattern("{ahead:b}[ab]*|a"), mode="here").complete(6), 6)
        self.assertLessEqual(Table(read_pattern("{word}+")).complete(6), 6)


class FutureTest(unittest.TestCase):
    def check(self, tree, mode, texts, continuations):
        """Check that texts which lead to the same state have the same future: point [43]."""
        table = Table(tree, mode=mode)
        groups = {}
        for text in texts:
            groups.setdefault(table.state_after(text), []).append(text)
        for held in groups.values():
            first = held[0]
            for text in held[1:]:
                for more in continuations:
                    found, other = table.answer(first + more), table.answer(text + more)
                    self.check_pair(found, other, len(first), len(text), (tree, mode, first, text, more))
        return len(groups)

    def check_pair(self, found, other, length, other_length, told):
        self.assertEqual(found is None, other is None, told)
        if found is not None:
            for index, other_index in zip(found[:2], other[:2]):
                self.assertTrue(corresponding(index, other_index, length, other_length), told)
            spans, other_spans = later_spans(found[2], length), later_spans(other[2], other_length)
            self.assertEqual(sorted(spans), sorted(other_spans), told)
            for name in spans:
                for index, other_index in zip(spans[name], other_spans[name]):
                    self.assertTrue(corresponding(index, other_index, length, other_length), told)

    def test_texts_with_the_same_state_have_the_same_future(self):
        texts = list(texts_up_to("\nab", 3))
        continuations = list(texts_up_to("\nab", 2)) + ["aab", "bab", " a", "ab\n"]
        for pattern in PATTERNS:
            for mode in MODES:
                self.check(read_pattern(pattern), mode, texts, continuations)

    def test_futures_of_many_trees(self):
        shared = 0
        texts = list(texts_up_to("ab", 3)) + ["\n", "a\n", "\na", " ", "b ", "a a", "aaaa", "abab"]
        continuations = ["", "a", "b", "\n", "ab", "ba", "aa", "a b", "abba"]
        for tree, _, _ in dense_cases(43, 150, kinds=("look", "edge"), depths=(3, 4, 4, 5)):
            for mode in MODES:
                shared += self.check(tree, mode, texts, continuations) < len(texts)
        self.assertGreater(shared, 100)

    def test_states_that_must_differ(self):
        # The future tells these texts apart: whether there is an answer, where it starts or ends, or what is set.
        for pattern, mode, text, other in (
            ("ab", "here", "a", "b"), ("ab", "search", "a", "b"), ("a*b", "whole", "ab", "a"), ("{line start}b", "search", "\n", "a"),
            ("{word edge}b", "search", "a", " "), ("({as x:a}b|ac)*", "here", "a", ""), ("{start}b", "search", "", "c"),
            ("(a|{ahead:aaa}a)*b", "here", "", "b"), ("{behind:aa}b", "search", "aa", "a"), ("a|ab", "here", "a", "b"),
        ):
            table = Table(read_pattern(pattern), mode=mode)
            self.assertNotEqual(table.state_after(text), table.state_after(other), pattern)


if __name__ == "__main__":
    unittest.main()
