"""Arguments stay as they were, and returned lists are new: point [2]."""

import unittest

from surespan.acceptance import least_accepted, least_answered, least_refused, outside, shared
from surespan.alphabet import SIGNS, texts_up_to
from surespan.answers import Answer
from surespan.cells import cell_of, cells, least_signs
from surespan.charts import chart_of
from surespan.derivations import derivations, derive
from surespan.exchanges import end_list, list_parting
from surespan.growth import growth, pump
from surespan.lanes import lane_answer, lane_lists, lane_way
from surespan.leastmachine import least_machine, minimized
from surespan.looktables import look_table
from surespan.machinejoins import beginnings, joined, mirrored, quotient, starred
from surespan.machineops import both, either, opposite, part_text, reach_text, without
from surespan.machinetree import tree_of
from surespan.meaning import accepts, first_answer, first_way, outcomes
from surespan.mirroring import mirror, strip_groups
from surespan.nearest import machine_within, nearest
from surespan.partings import parting, parting_from
from surespan.reading import read_pattern
from surespan.replacestreams import ReplaceStream
from surespan.replacing import replace_all
from surespan.replaying import earlier, replay
from surespan.residuals import Residual, residual_answer
from surespan.rewriting import simplify, simplify_steps
from surespan.rules import winner, winning_text
from surespan.scanning import find, scan
from surespan.signsets import SignSet
from surespan.splitting import split_text
from surespan.steps import compile_steps
from surespan.streams import Stream, drain
from surespan.tables import Table
from surespan.templates import fill, read_template, write_template
from surespan.textcounts import accepted_texts, count_texts, length_cycle, number_of, text_at
from surespan.treeafter import tree_after
from surespan.trees import group_names, is_plain, is_regular, node_at, paths, with_node
from surespan.twofold import twofold
from surespan.walking import each_way, walk_answer, walk_cost, walk_way
from surespan.waycounts import ways_row, whole_ways
from surespan.writing import write_pattern
from tests.samples import A, B, group, seq, trees_of_each_form

TREE = seq(group("y", A), group("x", B), group("y", B))


class ReturnedListsTest(unittest.TestCase):
    def check_new(self, make):
        first, second = make(), make()
        self.assertIsInstance(first, list)
        self.assertIsNot(first, second)
        expected = list(second)
        first.reverse()
        first.append("changed")
        self.assertEqual(second, expected)
        self.assertEqual(make(), expected)

    def test_returned_lists_are_new(self):
        signs = SignSet("abx")
        self.check_new(lambda: signs.ranges)
        self.check_new(lambda: cells(["ab", "bc"]))
        self.check_new(lambda: cells([]))
        self.check_new(lambda: paths(TREE))
        self.check_new(lambda: group_names(TREE))

    def test_returned_lists_of_outcomes_are_new(self):
        row = (("x", 0, 1),)
        self.check_new(lambda: outcomes(read_pattern("{as y:a*}"), "aa"))
        self.check_new(lambda: outcomes(read_pattern("a|"), "aa", 1, row))
        self.check_new(lambda: outcomes(read_pattern("[]"), "aa"))
        self.check_new(lambda: outcomes(read_pattern("()"), ""))

    def test_returned_lists_of_looks_and_lanes_are_new(self):
        for text in ("", "ab", "aab"):
            self.check_new(lambda: look_table("ahead", read_pattern("a*b"), text))
            self.check_new(lambda: look_table("behind", read_pattern("a*b"), text))
            self.check_new(lambda: lane_lists(read_pattern("a*b"), text))

    def test_returned_end_lists_are_new(self):
        for text in ("", "ab", "aab"):
            self.check_new(lambda: end_list(read_pattern("{as x:a*}b*"), text))
        self.check_new(lambda: end_list(read_pattern("[]"), "a"))

    def test_returned_numbers_of_ways_are_new(self):
        for text in ("", "ab", "aab"):
            self.check_new(lambda: ways_row(read_pattern("(a|a)*b?"), text))

    def test_returned_lists_of_trees_are_new(self):
        for pattern in ("a", "(a|b)|b|()", "[]*"):
            self.check_new(lambda: simplify_steps(read_pattern(pattern)))

    def test_returned_scans_and_pieces_are_new(self):
        for text in ("", "ab", "aab"):
            self.check_new(lambda: scan(read_pattern("{as x:a}|"), text))
            self.check_new(lambda: split_text(read_pattern("a"), text))
            self.check_new(lambda: split_text(read_pattern("a"), text, keep=True))
            self.check_new(lambda: drain(Stream(read_pattern("a|b")), [text, "a"]))
            self.check_new(lambda: list(Answer(text, 0, 0, (("x", 0, 0), ("y", 0, 0)))))

    def test_lists_that_streams_return_are_new(self):
        stream, other = Stream(read_pattern("a|")), Stream(read_pattern("a|"))
        for piece in ("a", "", "ba"):
            found = stream.feed(piece)
            self.assertEqual(found, other.feed(piece))
            found.append("changed")
            found.reverse()
            self.assertEqual(stream.told, other.told)
        found = stream.finish()
        self.assertEqual(found, other.finish())
        found.clear()
        self.assertEqual(stream.told, other.told)

    def test_the_division_of_a_table_is_new_at_each_reading(self):
        table = Table(read_pattern("[ab]c{word edge}"))
        self.check_new(lambda: table.division)
        self.assertEqual(table.answer("xac"), (1, 3, ()))
        self.check_new(lambda: table.division)

    def test_a_division_is_not_the_argument(self):
        sets = [SIGNS]
        division = cells(sets)
        self.assertEqual(division, sets)
        self.assertIsNot(division, sets)
        every = list(SIGNS)
        self.assertIsNot(cells(every), every)


class ArgumentsTest(unittest.TestCase):
    def test_lists_stay_as_they_were(self):
        sets = ["bc", "ab", "bc", ""]
        division = cells(sets)
        self.assertEqual(sets, ["bc", "ab", "bc", ""])
        kept = list(division)
        cell_of(division, "b")
        least_signs(division)
        self.assertEqual(division, kept)

    def test_lists_that_are_tuples(self):
        self.assertEqual(cells(("ab", "bc")), cells(["ab", "bc"]))
        self.assertEqual(least_signs(tuple(cells(["ab"]))), "\ta")
        self.assertEqual(cell_of(tuple(cells(["ab"])), "b"), 1)

    def test_sets_of_signs_stay_as_they_were(self):
        a, b = SignSet("abc"), SignSet("cd")
        self.assertEqual(len([a | b, a & b, a - b, ~a, a == b, a.within(b), list(a), "a" in a, a.ranges]), 9)
        self.assertEqual([a.members, b.members], ["abc", "cd"])

    def test_trees_stay_as_they_were(self):
        before = repr(TREE)
        with_node(TREE, (0, 0), B)
        with_node(TREE, (), B)
        node_at(TREE, (1,))
        self.assertEqual(repr(TREE), before)

    def test_trees_and_derivations_stay_as_they_were_on_texts(self):
        text, row = "aaab", (("q", 0, 1), ("x", 1, 2))
        for tree in trees_of_each_form() + [read_pattern("({as x:a?}{same x}|{behind:a}b)*")]:
            before = repr((tree, row))
            outcomes(tree, text, 1, row)
            calls = [first_way(tree, text), first_answer(tree, text), accepts(tree, text), write_pattern(tree)]
            calls += [compile_steps(tree), walk_way(tree, text), walk_answer(tree, text), walk_cost(tree, text)]
            calls += [list(each_way(tree, text)), derive(tree, text)]
            told = list(derivations(tree, text))
            told_before = repr(told)
            calls += [replay(tree, text, 0, below) for below in told]
            calls += [earlier(tree, told[0], below) for below in told]
            self.assertEqual(repr((tree, row)), before)
            self.assertEqual(repr(told), told_before)

    def test_regular_trees_stay_as_they_were(self):
        text = "aaab\n"
        trees = [tree for tree in trees_of_each_form() if is_regular(tree)]
        for tree in trees + [read_pattern("({as x:a?}{ahead:.}|{behind:a}b)*")]:
            before = repr(tree)
            for mode in ("search", "here", "whole"):
                table = Table(tree, mode=mode)
                calls = [table.answer(text), table.state_after(text), table.follow(0, "a"), table.complete(1000)]
                calls += [residual_answer(tree, text, mode=mode), Residual(tree, mode=mode).after("a").answer()]
            calls += [lane_lists(tree, text), lane_way(tree, text), lane_answer(tree, text, 1), mirror(tree)]
            calls += [parting(tree, A, level=level) for level in ("whole", "span", "answer")]
            calls += [parting_from(tree, A), strip_groups(tree)]
            calls += [ways_row(tree, text, 1), whole_ways(tree, text), twofold(tree), simplify(tree), simplify_steps(tree)]
            if is_plain(tree):
                calls += [tree_after(tree, "a"), growth(tree), pump(tree)]
            self.assertEqual(repr(tree), before)

    def test_answers_templates_and_pieces_stay_as_they_were(self):
        tree, text = read_pattern("{as x:a+}|{as y:b}"), "caab"
        template = read_template("<{x|none}{}>")
        pieces = ["c", "", "aa", "b"]
        before = repr((tree, template, pieces))
        answer = find(tree, text)
        fields = (answer.text, answer.start, answer.end, answer.row)
        calls = [fill(template, answer), answer.whole, answer.span("x"), answer["x"], len(answer), list(answer)]
        calls += [write_template(template), replace_all(tree, template, text), split_text(tree, text, limit=1)]
        calls += [drain(Stream(tree), pieces), answer == find(tree, text), "x" in answer]
        stream = ReplaceStream(tree, template)
        calls += [stream.feed(piece) for piece in pieces] + [stream.finish()]
        self.assertEqual(repr((tree, template, pieces)), before)
        self.assertEqual((answer.text, answer.start, answer.end, answer.row), fields)
        self.assertEqual(calls[0], "<aaaa>")

    def test_lists_of_trees_stay_as_they_were(self):
        trees = [read_pattern("a+"), read_pattern("{as x:a|b}"), read_pattern("{ahead:.}[^]*")]
        kept = list(trees)
        calls = [winner(trees, text) for text in ("", "a", "b", "ab")]
        calls += [winning_text(trees, number) for number in (-1, 0, 1, 2, 3)]
        self.assertTrue(len(trees) == 3 and all(tree is other for tree, other in zip(trees, kept)))
        self.assertEqual(len(calls), 9)

    def test_trees_stay_as_they_were_in_questions_about_all_texts(self):
        for tree in trees_of_each_form():
            if is_regular(tree):
                before = repr(tree)
                calls = [least_accepted(tree), least_refused(tree), least_answered(tree), least_machine(tree)]
                calls += [outside(tree, A), outside(A, tree), shared(tree, B)]
                if "look" not in before and "edge" not in before:
                    calls += [end_list(tree, "ab"), list_parting(tree, A), list_parting(A, tree)]
                self.assertEqual(repr(tree), before)

    def test_machines_stay_as_they_were(self):
        machine, other = least_machine(read_pattern("a*b|c")), least_machine(read_pattern("[b-d]*"))
        before = [(one.cells, one.rows, one.accepting) for one in (machine, other)]
        calls = [minimized(machine), opposite(machine), tree_of(machine), tree_of(other)]
        calls += [call(machine, other) for call in (both, either, without)]
        calls += [reach_text(machine, 2), part_text(machine, 0, 1), machine.accepts("ab"), machine.state_after("ab")]
        calls += [machine == other, len(machine), joined(machine, other), starred(machine), mirrored(machine)]
        calls += [beginnings(machine), quotient(machine, "a"), nearest(machine, "ba"), machine_within(machine, 2)]
        calls += [count_texts(machine, 3), text_at(machine, 2), number_of(machine, "b"), length_cycle(machine)]
        calls += list(accepted_texts(machine, 5))
        self.assertEqual([(one.cells, one.rows, one.accepting) for one in (machine, other)], before)

    def test_a_table_and_its_answers_stay_apart(self):
        table, other = Table(read_pattern("a*b")), Table(read_pattern("a*b"))
        table.answer("aab")
        self.assertEqual(other.states, 1)
        self.assertEqual(table.answer("aab"), other.answer("aab"))

    def test_repeated_calls_return_the_same(self):
        tree = read_pattern("({as x:a?}b|{ahead:a}.)*")
        for call in (outcomes, first_way, first_answer, walk_way, walk_cost, derive):
            self.assertEqual(call(tree, "abaab"), call(tree, "abaab"))
        for call in (compile_steps, chart_of, write_pattern):
            self.assertEqual(call(tree), call(tree))
            self.assertIsInstance(call(tree), (tuple, str))

    def test_generators_do_not_share_their_state(self):
        first, second = texts_up_to("ab", 2), texts_up_to("ab", 2)
        self.assertEqual([next(first), next(first), next(second), next(first), next(second)], ["", "a", "", "b", "a"])


if __name__ == "__main__":
    unittest.main()
