"""Mirrored trees and trees without groups: points [14], [64] and [65]."""

import unittest

from surespan.alphabet import texts_up_to
from surespan.errors import NotRegular
from surespan.meaning import accepts, outcomes
from surespan.mirroring import mirror, strip_groups
from surespan.reading import read_pattern
from surespan.trees import check_tree, group_names, is_regular, paths
from surespan.writing import write_pattern
from tests.samples import A, B, C, EMPTY, Dense, alt, edge, group, look, repeat, same, seq, trees_of_each_form


class MirrorTest(unittest.TestCase):
    def test_example(self):
        self.assertEqual(write_pattern(mirror(read_pattern("{start}ab?"))), "b?a{end}")

    def test_each_form(self):
        for tree in (EMPTY, A, ("set", ""), edge("word edge"), edge("no word edge")):
            self.assertEqual(mirror(tree), tree)
        self.assertEqual(mirror(seq(A, B, C)), seq(C, B, A))
        self.assertEqual(mirror(alt(seq(A, B), C, EMPTY)), alt(seq(B, A), C, EMPTY))
        self.assertEqual(mirror(repeat(seq(A, B), 2, None, True)), repeat(seq(B, A), 2, None, True))
        self.assertEqual(mirror(repeat(seq(A, B), 0, 3)), repeat(seq(B, A), 0, 3))
        self.assertEqual(mirror(group("x", seq(A, B))), group("x", seq(B, A)))
        self.assertEqual(mirror(look(seq(A, B))), look(seq(B, A), "behind"))
        self.assertEqual(mirror(look(edge("line start"), "behind", False)), look(edge("line end"), "ahead", False))
        self.assertEqual(mirror(edge("start")), edge("end"))
        self.assertEqual(mirror(edge("end")), edge("start"))
        self.assertEqual(mirror(edge("line start")), edge("line end"))
        self.assertEqual(mirror(edge("line end")), edge("line start"))
        self.assertEqual(mirror(seq(seq(A, B), C)), seq(C, seq(B, A)))

    def test_mirroring_twice(self):
        growing = Dense(64, kinds=("look", "edge"))
        for tree in trees_of_each_form() + [growing.tree(5) for _ in range(300)]:
            if is_regular(tree):
                check_tree(mirror(tree))
                self.assertEqual(mirror(mirror(tree)), tree)
                self.assertEqual(len(paths(mirror(tree))), len(paths(tree)))

    def test_accepted_texts_are_reversed(self):
        growing = Dense(65, kinds=("look", "edge"))
        trees = [tree for tree in trees_of_each_form() if is_regular(tree)]
        for tree in trees + [growing.tree(growing.chance.choice((3, 4, 5))) for _ in range(400)]:
            mirrored = mirror(tree)
            for text in list(texts_up_to("ab", 3)) + ["\nab", "ab\n", "b a", "a\n\nb", "aab a"]:
                self.assertEqual(accepts(mirrored, text), accepts(tree, text[::-1]), (tree, text))

    def test_not_regular(self):
        for tree in (same("x"), seq(group("x", A), same("x")), repeat(same("x"), 0, 0)):
            for call in (mirror, strip_groups):
                with self.assertRaises(NotRegular):
                    call(tree)


class StripTest(unittest.TestCase):
    def test_each_form(self):
        for tree in (EMPTY, A, edge("end"), seq(A, B), alt(A, B), repeat(A, 1, 2, True), look(A, "behind", False)):
            self.assertEqual(strip_groups(tree), tree)
        self.assertEqual(strip_groups(group("x", A)), A)
        self.assertEqual(strip_groups(group("x", group("y", A))), A)
        self.assertEqual(strip_groups(group("x", seq(A, group("x", B)))), seq(A, B))
        self.assertEqual(strip_groups(repeat(group("x", A), 0, None)), repeat(A, 0, None))
        self.assertEqual(strip_groups(alt(group("x", seq(A, B)), look(C))), alt(seq(A, B), look(C)))
        # A body takes the place of its group as it is, also a `seq` within a `seq`.
        self.assertEqual(strip_groups(seq(A, group("x", seq(A, B)))), seq(A, seq(A, B)))

    def test_the_ends_keep_their_order(self):
        growing = Dense(66, kinds=("look", "edge"))
        for _ in range(500):
            tree = growing.tree(growing.chance.choice((3, 4, 5)))
            stripped = strip_groups(tree)
            check_tree(stripped)
            self.assertEqual(group_names(stripped), [])
            for text in ("", "a", "ab", "aab", "ba\na"):
                for index in range(len(text) + 1):
                    expected = list(dict.fromkeys(end for end, _ in outcomes(tree, text, index)))
                    found = [end for end, row in outcomes(stripped, text, index)]
                    self.assertEqual(found, expected, (tree, text, index))


if __name__ == "__main__":
    unittest.main()
