"""Pattern trees: points [9] to [14]."""

import itertools
import unittest

from surespan.alphabet import SIGNS
from surespan.errors import BadTree
from surespan.trees import (
    check_tree, children, group_names, is_plain, is_regular, node_at, paths, with_node,
)
from tests.samples import (
    A, B, C, EDGE_KINDS, EMPTY, Growing, NOTHING, alt, edge, group, look, repeat, same, seq, trees_of_each_form,
)

BIG = seq(A, group("x", alt(B, repeat(C, 0, 1))), look(seq(edge("start"), A)))


class CheckTreeTest(unittest.TestCase):
    def refuse(self, tree, path):
        with self.assertRaises(BadTree) as caught:
            check_tree(tree)
        self.assertEqual(caught.exception.path, path, tree)

    def test_example(self):
        self.refuse(("seq", (("set", "a"), ("set", "ba"))), (1,))

    def test_well_formed_trees(self):
        for tree in trees_of_each_form():
            self.assertIsNone(check_tree(tree), tree)
        growing = Growing(3)
        for _ in range(300):
            self.assertIsNone(check_tree(growing.tree(5)))

    def test_sets(self):
        for signs in ("", "a", "\t\n $&", SIGNS):
            self.assertIsNone(check_tree(("set", signs)))
        for signs in ("aa", "ba", "abca", "\n\t", "&$", "a\t"):
            self.refuse(("set", signs), ())
            self.refuse(alt(A, seq(B, ("set", signs))), (1, 1))

    def test_few_children(self):
        for kind in ("seq", "alt"):
            self.refuse((kind, ()), ())
            self.refuse((kind, (A,)), ())
            self.refuse(group("x", (kind, (A,))), (0,))
            self.assertIsNone(check_tree((kind, (A, A))))

    def test_numbers_of_repeats(self):
        for least, most in itertools.product(range(10), list(range(10)) + [None]):
            tree = repeat(A, least, most)
            if most is not None and least > most:
                self.refuse(tree, ())
            else:
                self.assertIsNone(check_tree(tree))
        for least, most in ((10, None), (-1, None), (0, 10), (10, 10), (-1, 0), (-2, -1), (1, 0), (0, -1), (9, 8)):
            self.refuse(repeat(A, least, most), ())
            self.refuse(seq(A, repeat(A, least, most, True)), (1,))

    def test_names(self):
        for name in ("a", "z", "a0", "a_", "z9_a", "abcdefghijkl", "a___________"):
            self.assertIsNone(check_tree(group(name, A)))
            self.assertIsNone(check_tree(seq(group(name, A), same(name))))
        for name in ("", "0", "9a", "_", "_a", "A", "aB", "a-b", "a b", " a", "a\n", "abcdefghijklm", "a.", "a:"):
            self.refuse(group(name, A), ())
            self.refuse(seq(A, group(name, A)), (1,))
            self.refuse(seq(A, same(name)), (1,))

    def test_every_sign_in_a_name(self):
        for sign in SIGNS:
            small = "a" <= sign <= "z"
            for name, right in ((sign, small), ("a" + sign, small or sign in "0123456789_")):
                if right:
                    self.assertIsNone(check_tree(group(name, A)))
                else:
                    self.refuse(group(name, A), ())

    def test_sides_and_kinds(self):
        for side in ("ahead", "behind"):
            self.assertIsNone(check_tree(look(A, side, False)))
        for side in ("", "before", "Ahead", "ahead ", "start"):
            self.refuse(look(A, side), ())
        for kind in EDGE_KINDS:
            self.assertIsNone(check_tree(edge(kind)))
        for kind in ("", "Start", "line", "word", "no", "line  start", "no line end", "ahead", "start}"):
            self.refuse(edge(kind), ())
            self.refuse(repeat(edge(kind), 0, 1), (0,))

    def test_below_a_look(self):
        self.refuse(look(group("x", A)), (0,))
        self.refuse(look(look(A)), (0,))
        self.refuse(look(alt(A, look(A, "behind", False))), (0, 1))
        self.refuse(seq(group("x", A), look(same("x"))), (1, 0))
        self.refuse(seq(group("x", A), look(repeat(seq(B, same("x")), 0, 1))), (1, 0, 0, 1))
        self.refuse(look(seq(A, group("x", look(B)))), (0, 1))
        self.assertIsNone(check_tree(look(alt(repeat(seq(A, edge("end"), EMPTY), 0, 3), NOTHING))))

    def test_the_look_is_over_behind_it(self):
        self.assertIsNone(check_tree(seq(look(A), group("x", look(B)), same("x"))))

    def test_same_before_behind_and_below_its_group(self):
        self.refuse(same("x"), ())
        self.refuse(seq(same("x"), group("x", A)), (0,))
        self.assertIsNone(check_tree(seq(group("x", A), same("x"))))
        self.assertIsNone(check_tree(group("x", same("x"))))
        self.assertIsNone(check_tree(group("x", alt(A, seq(B, same("x"))))))
        self.assertIsNone(check_tree(alt(group("x", A), same("x"))))
        self.refuse(seq(group("x", A), same("y")), (1,))
        self.refuse(group("x", same("y")), (0,))
        self.refuse(seq(group("x", same("y")), group("y", A), same("y")), (0, 0))
        self.refuse(repeat(seq(same("x"), group("x", A)), 0, None), (0, 0))

    def test_groups_with_the_same_name(self):
        self.assertIsNone(check_tree(seq(group("x", A), group("x", B), same("x"))))
        self.assertIsNone(check_tree(group("x", seq(group("x", A), same("x")))))
        self.refuse(seq(group("x", A), same("y"), group("x", B), same("x")), (1,))

    def test_the_first_of_two_faults_in_preorder(self):
        bad = ("set", "ba")
        self.refuse(seq(bad, bad), (0,))
        self.refuse(seq(A, alt(B, bad), bad), (1, 1))
        self.refuse(repeat(bad, 3, 2), ())
        self.refuse(("seq", (bad,)), ())
        self.refuse(group("X", bad), ())
        self.refuse(look(group("X", bad), "side"), ())
        self.refuse(look(seq(A, look(bad)), "ahead"), (0, 1))
        self.refuse(seq(repeat(A, 0, 1), same("x"), bad), (1,))
        self.refuse(seq(alt(A, seq(B, edge("x"))), same("y")), (0, 1, 1))
        self.refuse(alt(A, group("x", ("alt", (edge("no"),))), edge("no")), (1, 0))

    def test_each_pair_of_faults(self):
        faults = [
            ("set", "aa"), ("seq", (A,)), ("alt", ()), repeat(A, 2, 1), repeat(A, 0, 10), group("", A), same(""),
            same("q"), look(A, "x"), edge("x"), look(look(A)), look(group("x", A)),
        ]
        for first, second in itertools.product(faults, repeat=2):
            below = () if first[0] != "look" or first[1] == "x" else (0,)
            self.refuse(seq(first, second), (0,) + below)
            self.refuse(seq(A, alt(group("z", first), B), second), (1, 0, 0) + below)

    def test_a_fault_at_every_path(self):
        growing = Growing(4)
        for _ in range(100):
            tree = growing.tree(4)
            for path in paths(tree):
                self.refuse(with_node(tree, path, edge("middle")), path)

    def test_trees_beyond_the_bounds(self):
        tree = A
        for _ in range(40):
            tree = group("x", tree)
        self.assertIsNone(check_tree(tree))
        self.assertIsNone(check_tree(("seq", (A,) * 200)))


class ShapeTest(unittest.TestCase):
    def test_children(self):
        self.assertEqual(children(seq(A, B, C)), (A, B, C))
        self.assertEqual(children(alt(A, EMPTY)), (A, EMPTY))
        self.assertEqual(children(repeat(A, 0, None)), (A,))
        self.assertEqual(children(group("x", B)), (B,))
        self.assertEqual(children(look(C, "behind", False)), (C,))
        for tree in (EMPTY, A, NOTHING, edge("end"), same("x")):
            self.assertEqual(children(tree), ())

    def test_paths_example(self):
        self.assertEqual(paths(seq(A, group("x", B))), [(), (0,), (1,), (1, 0)])

    def test_paths_in_preorder(self):
        self.assertEqual(paths(A), [()])
        self.assertEqual(
            paths(BIG),
            [(), (0,), (1,), (1, 0), (1, 0, 0), (1, 0, 1), (1, 0, 1, 0), (2,), (2, 0), (2, 0, 0), (2, 0, 1)],
        )

    def test_preorder_of_many_children(self):
        self.assertEqual(paths(("seq", (A,) * 12)), [()] + [(k,) for k in range(12)])

    def test_paths_are_in_the_order_of_tuples(self):
        growing = Growing(5)
        for _ in range(100):
            found = paths(growing.tree(5))
            self.assertEqual(found, sorted(found))
            self.assertEqual(len(found), len(set(found)))

    def test_node_at(self):
        self.assertEqual(node_at(BIG, ()), BIG)
        self.assertEqual(node_at(BIG, (0,)), A)
        self.assertEqual(node_at(BIG, (1, 0, 1)), repeat(C, 0, 1))
        self.assertEqual(node_at(BIG, (1, 0, 1, 0)), C)
        self.assertEqual(node_at(BIG, (2, 0, 0)), edge("start"))

    def test_with_node(self):
        self.assertEqual(with_node(seq(A, B), (1,), C), seq(A, C))
        self.assertEqual(with_node(alt(A, B, C), (0,), EMPTY), alt(EMPTY, B, C))
        self.assertEqual(with_node(repeat(A, 2, 5, True), (0,), B), repeat(B, 2, 5, True))
        self.assertEqual(with_node(group("x", A), (0,), B), group("x", B))
        self.assertEqual(with_node(look(A, "behind", False), (0,), B), look(B, "behind", False))
        self.assertEqual(
            with_node(BIG, (1, 0, 1, 0), seq(A, B)),
            seq(A, group("x", alt(B, repeat(seq(A, B), 0, 1))), look(seq(edge("start"), A))),
        )

    def test_with_node_at_the_root(self):
        for tree in trees_of_each_form():
            self.assertEqual(with_node(tree, (), C), C)
            self.assertEqual(with_node(C, (), tree), tree)

    def test_with_node_need_not_give_a_well_formed_tree(self):
        self.assertEqual(with_node(look(A), (0,), group("x", A)), look(group("x", A)))
        self.assertEqual(with_node(seq(group("x", A), same("x")), (0,), B), seq(B, same("x")))
        self.assertEqual(with_node(seq(A, B), (0,), ("set", "ba")), seq(("set", "ba"), B))

    def test_with_node_of_the_same_node_changes_nothing(self):
        growing = Growing(6)
        for tree in [growing.tree(5) for _ in range(100)] + trees_of_each_form():
            for path in paths(tree):
                self.assertEqual(with_node(tree, path, node_at(tree, path)), tree)
                changed = with_node(tree, path, ("set", "!"))
                self.assertEqual(node_at(changed, path), ("set", "!"))

    def test_parts_of_trees(self):
        part = seq(same("x"), A)
        self.assertEqual(children(part), (same("x"), A))
        self.assertEqual(paths(part), [(), (0,), (1,)])
        self.assertEqual(node_at(part, (0,)), same("x"))
        self.assertEqual(with_node(part, (1,), same("y")), seq(same("x"), same("y")))
        self.assertEqual([is_regular(part), is_plain(part), group_names(part)], [False, False, []])


class KindsTest(unittest.TestCase):
    def test_regular_and_plain(self):
        for tree, regular, plain in (
            (A, True, True), (EMPTY, True, True), (NOTHING, True, True),
            (seq(group("x", A), repeat(alt(B, EMPTY), 0, None)), True, True),
            (edge("start"), True, False), (look(A), True, False), (seq(A, edge("word edge")), True, False),
            (group("x", look(A, "behind", False)), True, False), (alt(A, repeat(look(B), 0, 1)), True, False),
            (seq(group("x", A), same("x")), False, False), (group("x", alt(A, same("x"))), False, False),
            (seq(edge("end"), group("x", look(A)), repeat(same("x"), 0, None)), False, False),
        ):
            self.assertIs(is_regular(tree), regular, tree)
            self.assertIs(is_plain(tree), plain, tree)

    def test_group_names(self):
        self.assertEqual(group_names(A), [])
        self.assertEqual(group_names(seq(group("b", A), group("a", B))), ["b", "a"])
        self.assertEqual(group_names(group("z", seq(A, group("y", group("x", B))))), ["z", "y", "x"])

    def test_each_name_stands_once_at_its_first_place(self):
        self.assertEqual(group_names(seq(group("x", A), group("y", B), group("x", C))), ["x", "y"])
        self.assertEqual(group_names(group("x", group("x", A))), ["x"])
        self.assertEqual(group_names(alt(repeat(group("y", group("x", A)), 0, 1), group("x", same("y")))), ["y", "x"])


if __name__ == "__main__":
    unittest.main()
