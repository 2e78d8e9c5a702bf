"""Promises over the whole program: points [1], [14], [23], [28] to [30], [62], [68], [71] and [75]."""

import random
import unittest

from surespan.acceptance import least_accepted, least_answered, least_refused, outside, shared
from surespan.alphabet import texts_up_to
from surespan.charts import chart_of
from surespan.derivations import derive
from surespan.errors import NotPlain, NotRegular
from surespan.exchanges import end_list, list_parting
from surespan.growth import growth, pump
from surespan.lanes import lane_answer, lane_lists, lane_way
from surespan.leastmachine import least_machine
from surespan.meaning import accepts, first_answer, first_way, outcomes
from surespan.measures import first_signs, length_bounds, needed_signs, weight
from surespan.mirroring import mirror, strip_groups
from surespan.partings import parting, parting_from
from surespan.reading import read_pattern
from surespan.replacestreams import ReplaceStream
from surespan.replacing import replace_all
from surespan.replaying import replay
from surespan.residuals import Residual, residual_answer
from surespan.rewriting import simplify, simplify_steps
from surespan.rules import winner, winning_text
from surespan.scanning import find, scan
from surespan.splitting import split_text
from surespan.streams import Stream, drain
from surespan.tables import Table
from surespan.templates import read_template, write_template
from surespan.treeafter import tree_after
from surespan.trees import group_names, is_plain, is_regular
from surespan.twofold import twofold
from surespan.walking import each_way, walk_answer, walk_way
from surespan.waycounts import ways_row, whole_ways
from surespan.writing import write_pattern
from tests.samples import A, B, Dense, Growing, alt, edge, group, look, repeat, same, seq, trees_of_each_form


class MethodsAgreeTest(unittest.TestCase):
    def check_answers(self, tree, text):
        for start in range(len(text) + 2):
            expected = first_answer(tree, text, start)
            found = find(tree, text, start)
            self.assertEqual(None if found is None else (found.start, found.end, found.row), expected)
            self.assertEqual(walk_answer(tree, text, start), expected)
            if is_regular(tree):
                self.assertEqual(lane_answer(tree, text, start), expected)
        if is_regular(tree) and weight(tree) <= 24:
            expected = first_answer(tree, text)
            self.assertEqual(Table(tree).answer(text), expected)
            self.assertEqual(residual_answer(tree, text), expected)

    def check_ways(self, tree, text, whole):
        for index in range(len(text) + 1):
            expected = first_way(tree, text, index, whole=whole)
            self.assertEqual(walk_way(tree, text, index, whole=whole), expected)
            derivation = derive(tree, text, index, whole=whole)
            self.assertEqual(None if derivation is None else replay(tree, text, index, derivation), expected)
            if is_regular(tree):
                self.assertEqual(lane_way(tree, text, index, whole=whole), expected)
        if is_regular(tree) and weight(tree) <= 24:
            mode = "whole" if whole else "here"
            expected = first_way(tree, text, whole=whole)
            expected = None if expected is None else (0,) + expected
            self.assertEqual(Table(tree, mode=mode).answer(text), expected)
            self.assertEqual(residual_answer(tree, text, mode=mode), expected)

    def check_acceptance(self, tree, text):
        expected = first_way(tree, text, whole=True) is not None
        self.assertIs(accepts(tree, text), expected)
        self.assertEqual(len(text) in [end for end, _ in outcomes(tree, text)], expected)
        self.assertEqual(len(text) in [end for end, _ in each_way(tree, text)], expected)
        if is_regular(tree) and weight(tree) <= 24:
            self.assertEqual(winner([tree], text), 0 if expected else None)
            self.assertIs(least_machine(tree).accepts(text), expected)
            self.assertEqual(whole_ways(tree, text) > 0, expected)
            self.assertIs(accepts(simplify(tree), text), expected)

    def check(self, tree, text):
        self.check_answers(tree, text)
        self.check_ways(tree, text, False)
        self.check_ways(tree, text, True)
        self.check_acceptance(tree, text)

    def test_trees_of_each_form(self):
        for tree in trees_of_each_form():
            for text in ("", "a", "ab", "aab", "b\n", "aaaaaaaaa"):
                self.check(tree, text)

    def test_many_trees(self):
        for number, kinds in enumerate((("look", "edge", "same"), ("look", "edge"), ())):
            for growing in (Growing(100 + number, kinds=kinds), Dense(110 + number, kinds=kinds)):
                for _ in range(60):
                    tree = growing.tree(growing.chance.choice((3, 4, 4)))
                    text = "".join(growing.chance.choice("aab\n ") for _ in range(growing.chance.randrange(6)))
                    self.check(tree, text)

    def test_all_short_texts(self):
        for pattern in (
            "({as x:a}|{as y:ab})*b?", "(a|{behind:a}b|{ahead:bb}b)*", "{word edge}({as x:a+}{not ahead:b})?.", "({as x:a*~}b)*{same x}",
            "(a*b?)<1,2>~{line end}",
        ):
            tree = read_pattern(pattern)
            for text in texts_up_to("ab\n", 3):
                self.check(tree, text)


class WrittenFormsTest(unittest.TestCase):
    def test_patterns_and_templates_are_read_again(self):
        growing = Growing(230, signs="ab\n\\{|-^", kinds=("look", "edge", "same"))
        for tree in trees_of_each_form() + [growing.tree(5) for _ in range(300)]:
            self.assertEqual(read_pattern(write_pattern(tree)), tree)
            for name in group_names(tree):
                template = (("text", "\\{}|\n"), ("group", name, "\t|{}\\"), ("whole",), ("group", name, ""))
                self.assertEqual(read_template(write_template(template)), template)


class ReplacedTextsTest(unittest.TestCase):
    def streamed(self, tree, template, text, chance):
        stream, found, at = ReplaceStream(tree, template), "", 0
        while at < len(text):
            step = chance.choice((1, 1, 2, 5))
            found, at = found + stream.feed(text[at:at + step]), at + step
        return found + stream.finish()

    def test_written_read_simplified_and_streamed(self):
        growing = Dense(750, kinds=("look", "edge"))
        chance = growing.chance
        for _ in range(250):
            tree = growing.tree(chance.choice((3, 4, 4, 5)))
            if weight(tree) > 24:
                continue
            text = "".join(chance.choice("aab\n b") for _ in range(chance.randrange(10)))
            steps = simplify_steps(tree)
            # A group that no outcome ever sets may be left out.
            names = [name for name in group_names(tree) if name in group_names(steps[-1])]
            template = read_template("<{}" + "".join("{" + name + "|none}" for name in names) + ">")
            expected = replace_all(tree, template, text)
            for other in [read_pattern(write_pattern(tree)), *steps]:
                self.assertEqual(replace_all(other, template, text), expected)
                self.assertEqual(scan(other, text), scan(tree, text))
            for other in (tree, steps[-1]):
                self.assertEqual(self.streamed(other, template, text, chance), expected)
                self.assertEqual(drain(Stream(other), [text[:4], text[4:]]), scan(tree, text))
            pieces = split_text(tree, text, keep=True)
            self.assertEqual("".join(pieces), text)


REGULAR = {
    "chart_of": chart_of, "lane_lists": lambda tree: lane_lists(tree, "a"), "lane_way": lambda tree: lane_way(tree, "a", 1, whole=True),
    "lane_answer": lambda tree: lane_answer(tree, "a", 400), "Table": lambda tree: Table(tree, mode="here"), "Residual": Residual,
    "Residual whole": lambda tree: Residual(tree, mode="whole"), "residual_answer": lambda tree: residual_answer(tree, ""),
    "parting": lambda tree: parting(tree, A), "parting with": lambda tree: parting(A, tree, level="whole"), "span": lambda tree: parting(A, tree, level="span"),
    "parting_from": lambda tree: parting_from(tree, A), "parting_from with": lambda tree: parting_from(A, tree), "least_accepted": least_accepted,
    "least_refused": least_refused, "least_answered": least_answered, "outside": lambda tree: outside(tree, A), "outside with": lambda tree: outside(A, tree),
    "shared": lambda tree: shared(tree, A), "shared with": lambda tree: shared(A, tree), "winner": lambda tree: winner([A, tree], "a"),
    "winning_text": lambda tree: winning_text([A, tree], 0), "no such tree": lambda tree: winning_text([tree], 7), "least_machine": least_machine,
    "ways_row": lambda tree: ways_row(tree, "a", 1), "whole_ways": lambda tree: whole_ways(tree, "a"), "twofold": twofold, "simplify": simplify,
    "simplify_steps": simplify_steps, "mirror": mirror, "strip_groups": strip_groups, "Stream": Stream,
    "ReplaceStream": lambda tree: ReplaceStream(tree, (("group", "q", ""),)),
}
PLAIN = {
    "length_bounds": length_bounds, "first_signs": first_signs, "needed_signs": needed_signs, "tree_after": lambda tree: tree_after(tree, "a"),
    "end_list": lambda tree: end_list(tree, "a"), "list_parting": lambda tree: list_parting(tree, A), "list_parting with": lambda tree: list_parting(A, tree),
    "growth": growth, "pump": pump,
}
NOT_REGULAR = [
    same("x"), seq(group("x", A), same("x")), repeat(seq(group("x", A), same("x")), 0, 0), seq(group("x", A), look(B), edge("end"), same("x")),
    alt(A, ("set", ""), group("x", seq(A, same("x")))), group("x", group("y", alt(A, same("x")))),
]
NOT_PLAIN = [edge("start"), look(A), look(A, "behind", False), seq(A, repeat(edge("end"), 0, 0)), alt(A, group("x", look(B)))]


class WrongTreesTest(unittest.TestCase):
    def test_trees_that_are_not_regular(self):
        for tree in NOT_REGULAR:
            self.assertFalse(is_regular(tree))
            for name, call in REGULAR.items():
                with self.assertRaises(NotRegular, msg=name):
                    call(tree)

    def test_trees_that_are_not_plain(self):
        for tree in NOT_PLAIN + NOT_REGULAR:
            self.assertFalse(is_plain(tree))
            for name, call in PLAIN.items():
                with self.assertRaises(NotPlain, msg=name):
                    call(tree)

    def test_other_trees_are_taken(self):
        for call in REGULAR.values():
            if call is not REGULAR["ReplaceStream"]:
                call(seq(group("q", A), look(B, "behind", False), edge("end")))
        for call in PLAIN.values():
            call(seq(group("q", A), repeat(B, 0, None, True)))
        for tree in NOT_REGULAR[1:]:
            for call in (scan, find, lambda tree, text: replace_all(tree, (), text), split_text, outcomes, first_answer, walk_answer):
                call(tree, "aab")

    def test_methods_of_one_stream_at_random(self):
        # The same text in any pieces gives the same answers, whatever is asked in between.
        chance = random.Random(76)
        for pattern in ("{as x:a+}b?", "a*", "(a|ab)(c|bcd)?", "a{ahead:.*b}|b"):
            tree = read_pattern(pattern)
            for _ in range(10):
                stream, text, told = Stream(tree), "", []
                for _ in range(6):
                    piece = "".join(chance.choice("abc") for _ in range(chance.randrange(3)))
                    text += piece
                    told += stream.feed(piece)
                    if chance.random() < 0.5:
                        stream.doubt()
                self.assertEqual(told + stream.finish(), scan(tree, text))


if __name__ == "__main__":
    unittest.main()
