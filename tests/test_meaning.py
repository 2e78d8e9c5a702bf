"""Edges, ways, outcomes and answers: points [24] to [30]."""

import unittest

from surespan.meaning import accepts, edge_holds, first_answer, first_way, outcomes
from surespan.reading import read_pattern
from surespan.trees import children
from tests import reference
from tests.samples import A, B, EDGE_KINDS, EMPTY, alt, dense_cases, edge, group, look, repeat, same, seq


def ends(pattern, text, index=0):
    """Return the ends of the outcomes of a pattern text without groups."""
    return [end for end, row in outcomes(read_pattern(pattern), text, index)]


def indexes(kind, text):
    return [index for index in range(len(text) + 1) if edge_holds(kind, text, index)]


class EdgeTest(unittest.TestCase):
    def check(self, text, start, end, line_start, line_end, word_edge):
        rest = [index for index in range(len(text) + 1) if index not in word_edge]
        expected = [start, end, line_start, line_end, word_edge, rest]
        self.assertEqual([indexes(kind, text) for kind in EDGE_KINDS], expected)
        for kind, found in zip(EDGE_KINDS, expected):
            for index in range(len(text) + 1):
                self.assertIs(edge_holds(kind, text, index), index in found)
                self.assertEqual(outcomes(edge(kind), text, index), [(index, ())] if index in found else [])

    def test_the_empty_text(self):
        self.check("", [0], [0], [0], [0], [])

    def test_one_line(self):
        self.check("ab", [0], [2], [0], [2], [0, 2])
        self.check(" a-b_9 ", [0], [7], [0], [7], [1, 2, 3, 6])
        self.check("--", [0], [2], [0], [2], [])

    def test_newlines(self):
        self.check("\n", [0], [1], [0, 1], [0, 1], [])
        self.check("a\nb", [0], [3], [0, 2], [1, 3], [0, 1, 2, 3])
        self.check("\n\na\n", [0], [4], [0, 1, 2, 4], [0, 1, 3, 4], [2, 3])

    def test_word_signs(self):
        for sign in "azAZ09_":
            self.assertEqual(indexes("word edge", "-" + sign + "-"), [1, 2])
            self.assertEqual(indexes("no word edge", "a" + sign), [1])
        for sign in "-. \n\t@[`{/:$~":
            self.assertEqual(indexes("word edge", "-" + sign + "-"), [])
            self.assertEqual(indexes("word edge", "a" + sign + "a"), [0, 1, 2, 3])


class OutcomesTest(unittest.TestCase):
    def test_examples(self):
        self.assertEqual(outcomes(read_pattern("a|ab|a?"), "ab"), [(1, ()), (2, ()), (0, ())])
        row = (("x", 0, 1), ("y", 1, 2))
        self.assertEqual(first_way(read_pattern("{as x:a|ab}{as y:b?}"), "ab", whole=True), (2, row))
        self.assertEqual(first_answer(read_pattern("b+~"), "abb"), (1, 2, ()))

    def test_empty_and_set(self):
        self.assertEqual(outcomes(EMPTY, "ab", 1), [(1, ())])
        self.assertEqual(outcomes(EMPTY, "", 0, (("q", 0, 0),)), [(0, (("q", 0, 0),))])
        self.assertEqual(ends("a", "ab"), [1])
        self.assertEqual(ends("a", "ab", 1), [])
        self.assertEqual(ends("a", "ab", 2), [])
        self.assertEqual(ends("[]", "ab"), [])
        self.assertEqual(ends("[^]", ""), [])

    def test_seq_orders_by_the_first_part(self):
        self.assertEqual(ends("(a|ab)(b|)", "abb"), [2, 1, 3])
        self.assertEqual(ends("(ab|a)(b|)(c|)", "abbc"), [4, 3, 2, 1])
        self.assertEqual(ends("(a|)(a|)(a|)", "aaa"), [3, 2, 1, 0])
        self.assertEqual(ends("(|a)(|a)(|a)", "aaa"), [0, 1, 2, 3])

    def test_alt_orders_by_the_branch(self):
        self.assertEqual(ends("|a|ab", "ab"), [0, 1, 2])
        self.assertEqual(ends("ab|a|", "ab"), [2, 1, 0])
        self.assertEqual(ends("b|a", "ab"), [1])

    def test_two_ways_with_one_outcome(self):
        self.assertEqual(ends("a|a|()|a|()", "a"), [1, 0])
        self.assertEqual(outcomes(read_pattern("{as x:a}|{as x:a}|a"), "a"), [(1, (("x", 0, 1),)), (1, ())])
        self.assertEqual(outcomes(read_pattern("({as x:a}|a){as x:}"), "a"), [(1, (("x", 1, 1),))])

    def test_one_end_with_two_rows(self):
        found = outcomes(read_pattern("{as x:a*}{as y:a*}"), "a")
        self.assertEqual(found, [
            (1, (("x", 0, 1), ("y", 1, 1))), (1, (("x", 0, 0), ("y", 0, 1))), (0, (("x", 0, 0), ("y", 0, 0))),
        ])

    def test_against_the_document_word_for_word(self):
        for tree, text, index in dense_cases(24, 2000):
            for row in ((), (("x", 0, len(text)), ("z", index, index)), (("y", index, len(text)),)):
                if reference.few_ways(tree, text, index, row) is not None:
                    expected = reference.outcome_list(tree, text, index, row)
                    self.assertEqual(outcomes(tree, text, index, row), expected, (tree, text, index, row))


class RepeatTest(unittest.TestCase):
    def test_greedy_and_lazy(self):
        self.assertEqual(ends("a*", "aaa"), [3, 2, 1, 0])
        self.assertEqual(ends("a*~", "aaa"), [0, 1, 2, 3])
        self.assertEqual(ends("a+", "aaa"), [3, 2, 1])
        self.assertEqual(ends("a<2,>~", "aaa"), [2, 3])
        self.assertEqual(ends("a<1,2>", "aaa"), [2, 1])
        self.assertEqual(ends("a?~", "aaa"), [0, 1])
        self.assertEqual(ends("a<2>", "aaa"), [2])
        self.assertEqual(ends("a<2>", "a"), [])
        self.assertEqual(ends("a<0>", "aaa"), [0])
        self.assertEqual(ends("[]<0>", "aaa"), [0])
        self.assertEqual(ends("[]*", "aaa"), [0])
        self.assertEqual(ends("[]+", "aaa"), [])

    def test_the_body_decides_before_the_number_of_iterations(self):
        self.assertEqual(ends("(a|aa)*", "aaa"), [3, 2, 1, 0])
        self.assertEqual(ends("(ab|a|b)*", "ab"), [2, 1, 0])
        self.assertEqual(ends("(aa|a)*~", "aaa"), [0, 2, 3, 1])
        self.assertEqual(ends("(a|aa)<1,2>~", "aaa"), [1, 2, 3])

    def test_bodies_that_can_be_empty(self):
        row = [(("x", 0, 0),), (("x", 0, 1),), (("x", 1, 1),)]
        for least, greedy, lazy in (
            (0, [(1, row[1]), (0, ())], [(0, ()), (1, row[1])]),
            (1, [(1, row[1]), (0, row[0])], [(1, row[1]), (0, row[0])]),
            (2, [(1, row[2]), (1, row[1]), (0, row[0])], [(1, row[2]), (1, row[1]), (0, row[0])]),
        ):
            tree = group("x", repeat(A, 0, 1))
            self.assertEqual(outcomes(repeat(tree, least, None), "a"), greedy)
            self.assertEqual(outcomes(repeat(tree, least, None, True), "a"), lazy)
            for lazily in (False, True):
                found = reference.outcome_list(repeat(tree, least, None, lazily), "a")
                self.assertEqual(found, lazy if lazily else greedy)

    def test_lazy_bodies_that_can_be_empty(self):
        self.assertEqual(ends("(a?~)*", "aa"), [2, 1, 0])
        self.assertEqual(ends("(a?~)+", "aa"), [2, 1, 0])
        self.assertEqual(ends("(a?~)*~", "aa"), [0, 1, 2])
        self.assertEqual(ends("(a*~)*", "aa"), [2, 1, 0])
        self.assertEqual(ends("((a?)*)*", "aa"), [2, 1, 0])
        self.assertEqual(ends("((a?~)*~)*~", "aa"), [0, 1, 2])

    def test_a_later_iteration_that_does_not_move_is_none(self):
        # The first iteration may stay where it began, a second one may not.
        found = outcomes(read_pattern("({as x:}|a)+"), "a")
        self.assertEqual(found, [(1, (("x", 0, 0),)), (0, (("x", 0, 0),)), (1, ())])
        found = outcomes(read_pattern("({as x:}|a)*"), "a")
        self.assertEqual(found, [(1, ()), (0, ())])
        self.assertEqual(outcomes(read_pattern("{as x:}*"), "a"), [(0, ())])
        self.assertEqual(outcomes(read_pattern("{as x:}?"), "a"), [(0, ())])
        self.assertEqual(outcomes(read_pattern("{as x:}<0,3>"), "a"), [(0, ())])
        self.assertEqual(outcomes(read_pattern("{as x:}<1,3>"), "a"), [(0, (("x", 0, 0),))])
        self.assertEqual(outcomes(read_pattern("{as x:}<2>"), "a"), [(0, (("x", 0, 0),))])
        self.assertEqual(outcomes(read_pattern("{as x:{end}}+"), "a", 1), [(1, (("x", 1, 1),))])

    def test_an_inner_iteration_that_stays_in_an_outer_one_that_moves(self):
        self.assertEqual(ends("(a(|b)<2>)*", "aba"), [1, 3, 2, 0])
        self.assertEqual(ends("((a|)<2>b)*", "abb"), [3, 2, 0])
        self.assertEqual(ends("(a*b*)*", "abab"), [4, 3, 2, 1, 0])

    def test_names_that_an_iteration_sets_stay_set(self):
        self.assertEqual(outcomes(read_pattern("({as x:a}|{as y:b})*"), "ab")[0], (2, (("x", 0, 1), ("y", 1, 2))))
        self.assertEqual(outcomes(read_pattern("({as x:a}|b)*"), "ab")[0], (2, (("x", 0, 1),)))
        tree = read_pattern("({as x:ab}|{same x}c)*")
        self.assertEqual(first_way(tree, "ababc"), (4, (("x", 2, 4),)))
        self.assertEqual(first_way(tree, "ababc", whole=True), (5, (("x", 0, 2),)))
        # Read in the same iteration, before the group: set by the iteration before.
        tree = repeat(alt(seq(group("x", A), B), seq(same("x"), same("x"))), 0, None)
        self.assertEqual(outcomes(tree, "abaa")[0], (4, (("x", 0, 1),)))


class GroupTest(unittest.TestCase):
    def test_span_and_order(self):
        found = outcomes(read_pattern("{as x:a|ab|}"), "ab")
        self.assertEqual(found, [(1, (("x", 0, 1),)), (2, (("x", 0, 2),)), (0, (("x", 0, 0),))])

    def test_rows_are_in_ascending_order_of_the_names(self):
        way = first_way(read_pattern("{as b:}{as aa:}{as a_:}{as a0:}{as a:}{as ab:}"), "")
        self.assertEqual([name for name, start, end in way[1]], ["a", "a0", "a_", "aa", "ab", "b"])

    def test_a_name_is_set_again(self):
        self.assertEqual(first_way(read_pattern("{as x:a}{as x:b}"), "ab"), (2, (("x", 1, 2),)))
        self.assertEqual(first_way(read_pattern("{as x:a}*"), "aaa"), (3, (("x", 2, 3),)))

    def test_a_group_in_a_group_of_the_same_name(self):
        self.assertEqual(first_way(read_pattern("{as x:a{as x:b}c}"), "abc"), (3, (("x", 0, 3),)))
        # While the outer group is matched, the name has what the inner one has set.
        tree = group("x", seq(group("x", A), same("x"), B))
        self.assertEqual(first_way(tree, "aab"), (3, (("x", 0, 3),)))
        self.assertIsNone(first_way(tree, "aba"))

    def test_the_name_keeps_its_setting_in_its_own_body(self):
        tree = seq(group("x", A), group("x", seq(same("x"), B)))
        self.assertEqual(first_way(tree, "aab"), (3, (("x", 1, 3),)))
        self.assertIsNone(first_way(group("x", seq(A, same("x"))), "aa"))
        self.assertEqual(outcomes(repeat(group("x", seq(A, alt(same("x"), EMPTY))), 2, 2), "aaa"),
                         [(3, (("x", 1, 3),)), (2, (("x", 1, 2),))])

    def test_the_given_row(self):
        row = (("a", 0, 1), ("x", 1, 2), ("z", 0, 0))
        self.assertEqual(outcomes(group("x", A), "a", 0, row), [(1, (("a", 0, 1), ("x", 0, 1), ("z", 0, 0)))])
        self.assertEqual(outcomes(group("m", EMPTY), "a", 1, row),
                         [(1, (("a", 0, 1), ("m", 1, 1), ("x", 1, 2), ("z", 0, 0)))])
        self.assertEqual(outcomes(tree=same("x"), text="aba", index=0, captures=(("x", 2, 3),)),
                         [(1, (("x", 2, 3),))])
        self.assertEqual(outcomes(same("x"), "aba", 1, (("x", 2, 3),)), [])
        self.assertEqual(outcomes(same("x"), "aba", 1), [])


class SameTest(unittest.TestCase):
    def test_not_set(self):
        self.assertEqual(outcomes(read_pattern("{as x:a}?{same x}"), "b"), [])
        self.assertEqual(outcomes(read_pattern("({as x:a}|b){same x}"), "bb"), [])

    def test_an_empty_span(self):
        self.assertEqual(outcomes(read_pattern("{as x:}{same x}"), "a"), [(0, (("x", 0, 0),))])
        self.assertEqual(outcomes(read_pattern("{as x:a?}{same x}"), "ab"), [(0, (("x", 0, 0),))])
        self.assertEqual(outcomes(read_pattern("a{as x:}{same x}<2>{end}"), "a"), [(1, (("x", 1, 1),))])
        # It does not move, so no iteration after the least ones can consist of it.
        self.assertEqual(outcomes(read_pattern("{as x:a?}{same x}*"), "b"), [(0, (("x", 0, 0),))])
        self.assertEqual(outcomes(read_pattern("{as x:a?}({same x}b?)*"), "b")[0], (1, (("x", 0, 0),)))

    def test_set_again(self):
        tree = read_pattern("{as x:a}{as x:b}{same x}")
        self.assertEqual(outcomes(tree, "abb"), [(3, (("x", 1, 2),))])
        self.assertEqual(outcomes(tree, "aba"), [])
        self.assertEqual(first_way(read_pattern("({as x:a|b}{same x})*"), "aabbab"), (4, (("x", 2, 3),)))

    def test_a_copy_at_the_end_of_the_text(self):
        self.assertEqual(first_way(read_pattern("{as x:ab}{same x}"), "abab"), (4, (("x", 0, 2),)))
        self.assertIsNone(first_way(read_pattern("{as x:ab}{same x}"), "aba"))
        self.assertIsNone(first_way(read_pattern("{as x:ab}{same x}"), "ab"))

    def test_ways_with_one_end_but_other_captured_texts(self):
        # The first way of the groups up to index 2 fails later on; another one with the same end does not.
        tree = read_pattern("({as x:aa}|a{as x:a}){same x}b")
        self.assertEqual(outcomes(tree, "aaab"), [(4, (("x", 1, 2),))])
        tree = read_pattern("{as x:a*}{as y:a*}b{same y}c")
        self.assertEqual(outcomes(tree, "aabac"), [(5, (("x", 0, 1), ("y", 1, 2)))])
        # What is read in a later iteration, and what is read behind another group, counts as well.
        tree = read_pattern("({as x:aa}|a{as x:a}|{same x}b)*c")
        self.assertEqual(first_way(tree, "aaabc"), (5, (("x", 1, 2),)))
        tree = read_pattern("({as x:aa}|a{as x:a}){as y:b?}{same y}{same x}c")
        self.assertEqual(first_way(tree, "aabbac"), (6, (("x", 1, 2), ("y", 2, 3))))
        tree = read_pattern("{as x:a{as x:a?}{as y:a?}}{same y}b")
        self.assertEqual(outcomes(tree, "aaab"), [(4, (("x", 0, 2), ("y", 1, 2)))])
        tree = read_pattern("{as x:a*(a*)}b{same x}c")
        self.assertEqual(outcomes(tree, "aabaac"), [(6, (("x", 0, 2),))])


class LookTest(unittest.TestCase):
    def test_ahead(self):
        tree, other = look(seq(A, B)), look(seq(A, B), "ahead", False)
        self.assertEqual([bool(outcomes(tree, "abab", i)) for i in range(5)], [True, False, True, False, False])
        self.assertEqual([bool(outcomes(other, "abab", i)) for i in range(5)], [False, True, False, True, True])
        self.assertEqual(outcomes(tree, "abab", 2, (("x", 0, 1),)), [(2, (("x", 0, 1),))])

    def test_behind(self):
        tree, other = look(seq(A, B), "behind"), look(seq(A, B), "behind", False)
        self.assertEqual([bool(outcomes(tree, "abab", i)) for i in range(5)], [False, False, True, False, True])
        self.assertEqual([bool(outcomes(other, "abab", i)) for i in range(5)], [True, True, False, True, False])

    def test_empty_bodies(self):
        for side in ("ahead", "behind"):
            for index in range(3):
                self.assertEqual(outcomes(look(EMPTY, side), "ab", index), [(index, ())])
                self.assertEqual(outcomes(look(EMPTY, side, False), "ab", index), [])

    def test_bodies_of_several_lengths(self):
        tree = read_pattern("{behind:ba*}c")
        self.assertEqual([first_answer(tree, text) for text in ("baac", "aac", "bc", "c", "bbac")],
                         [(3, 4, ()), None, (1, 2, ()), None, (3, 4, ())])
        tree = read_pattern("{not behind:b.*}c")
        self.assertEqual([first_answer(tree, text) for text in ("bac", "ac", "b\nc")],
                         [None, (1, 2, ()), (2, 3, ())])

    def test_edges_in_looks_see_the_whole_text(self):
        self.assertEqual(first_answer(read_pattern("{behind:{start}a}b"), "abab", 1), (1, 2, ()))
        self.assertIsNone(first_answer(read_pattern("{behind:{start}a}b"), "abab", 2))
        self.assertEqual(first_answer(read_pattern("{ahead:b{end}}."), "abab"), (3, 4, ()))
        self.assertEqual(first_answer(read_pattern("{ahead:a*{line end}}"), "aab\naa"), (3, 3, ()))

    def test_repeated_looks(self):
        self.assertEqual(ends("({ahead:a}.)*", "aab"), [2, 1, 0])
        self.assertEqual(ends("(.{not behind:b})*", "aab"), [2, 1, 0])
        self.assertEqual(ends("{ahead:a}*", "a"), [0])
        self.assertEqual(ends("{ahead:b}<2>", "a"), [])


class FirstWayTest(unittest.TestCase):
    def test_first_and_whole(self):
        tree = read_pattern("a|ab|{as x:abc}")
        self.assertEqual(first_way(tree, "abc"), (1, ()))
        self.assertEqual(first_way(tree, "abc", whole=True), (3, (("x", 0, 3),)))
        self.assertIsNone(first_way(tree, "abcd", whole=True))
        self.assertIsNone(first_way(tree, "b"))
        self.assertEqual(first_way(tree, "xab", 1), (2, ()))

    def test_whole_ways_from_another_index(self):
        tree = read_pattern("a|ab")
        self.assertEqual(first_way(tree, "bab", 1, whole=True), (3, ()))
        self.assertEqual(first_way(tree, "bab", index=1, whole=True), (3, ()))
        self.assertIsNone(first_way(tree, "bab", 2, whole=True))
        self.assertIsNone(first_way(tree, "abab", 0, whole=True))
        self.assertEqual(first_way(EMPTY, "ab", 2, whole=True), (2, ()))
        self.assertIsNone(first_way(EMPTY, "ab", 1, whole=True))
        self.assertEqual(first_way(EMPTY, "", whole=True), (0, ()))

    def test_the_first_whole_way_among_several(self):
        tree = read_pattern("({as x:a}|{as y:a})(b|)b*")
        self.assertEqual(first_way(tree, "abb", whole=True), (3, (("x", 0, 1),)))
        tree = read_pattern("({as x:ab}|{as y:a})b*~")
        self.assertEqual(first_way(tree, "abb", whole=True), (3, (("x", 0, 2),)))
        self.assertEqual(first_way(tree, "abb"), (2, (("x", 0, 2),)))

    def test_against_the_document_word_for_word(self):
        for tree, text, index in dense_cases(28, 2000):
            if reference.few_ways(tree, text, index) is not None:
                self.assertEqual(first_way(tree, text, index), reference.first(tree, text, index))
                expected = reference.first(tree, text, index, True)
                self.assertEqual(first_way(tree, text, index, whole=True), expected, (tree, text, index))


class FirstAnswerTest(unittest.TestCase):
    def test_the_least_index_comes_first(self):
        self.assertEqual(first_answer(read_pattern("b+|a"), "cabb"), (1, 2, ()))
        self.assertEqual(first_answer(read_pattern("b+"), "cabb"), (2, 4, ()))
        self.assertEqual(first_answer(read_pattern("{as x:b}"), "cabb", 3), (3, 4, (("x", 3, 4),)))
        self.assertEqual(first_answer(tree=A, text="ba", start=1), (1, 2, ()))
        self.assertIsNone(first_answer(read_pattern("d"), "cabb"))

    def test_an_empty_answer_at_the_end(self):
        self.assertEqual(first_answer(read_pattern("{end}"), "ab"), (2, 2, ()))
        self.assertEqual(first_answer(read_pattern("b*{end}"), "ab"), (1, 2, ()))
        self.assertEqual(first_answer(EMPTY, "ab", 2), (2, 2, ()))
        self.assertEqual(first_answer(EMPTY, ""), (0, 0, ()))

    def test_start_indexes_beyond_the_end(self):
        for start in (3, 4, 400):
            self.assertIsNone(first_answer(EMPTY, "ab", start))
            self.assertIsNone(first_answer(read_pattern("a*"), "ab", start))
        self.assertIsNone(first_answer(EMPTY, "", 1))

    def test_a_start_index_does_not_cut_the_text(self):
        self.assertIsNone(first_answer(read_pattern("{start}a"), "aa", 1))
        self.assertEqual(first_answer(read_pattern("{behind:a}a"), "aa", 1), (1, 2, ()))
        self.assertEqual(first_answer(read_pattern("{word edge}b"), "ab b", 1), (3, 4, ()))
        self.assertEqual(first_answer(read_pattern("{line start}b"), "a\nb", 2), (2, 3, ()))

    def test_against_the_document_word_for_word(self):
        for tree, text, start in dense_cases(29, 2000):
            if all(reference.few_ways(tree, text, i) is not None for i in range(len(text) + 1)):
                self.assertEqual(first_answer(tree, text, start), reference.answer(tree, text, start))
                self.assertEqual(first_answer(tree, text), reference.answer(tree, text))


class AcceptsTest(unittest.TestCase):
    def test_whole_texts_only(self):
        tree = read_pattern("a|ab")
        self.assertEqual([accepts(tree, text) for text in ("a", "ab", "", "b", "aba")],
                         [True, True, False, False, False])
        self.assertIs(accepts(EMPTY, ""), True)
        self.assertIs(accepts(EMPTY, "a"), False)

    def test_against_the_document_word_for_word(self):
        for tree, text, _ in dense_cases(30, 2000):
            if reference.few_ways(tree, text) is not None:
                self.assertIs(accepts(tree, text), reference.first(tree, text, 0, True) is not None)


class PartsTest(unittest.TestCase):
    def test_parts_of_trees(self):
        """`outcomes` is also passed parts of trees, in which a `same` may have no earlier group."""
        for tree, text, index in dense_cases(10, 200):
            for part in children(tree):
                row = (("x", index, len(text)),)
                if reference.few_ways(part, text, index, row) is not None:
                    self.assertEqual(outcomes(part, text, index, row), reference.outcome_list(part, text, index, row))


if __name__ == "__main__":
    unittest.main()
