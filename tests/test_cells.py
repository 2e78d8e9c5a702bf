"""Divisions: point [8]."""

import random
import unittest

from surespan.alphabet import SIGNS
from surespan.cells import cell_of, cells, least_signs


def by_definition(sets):
    """Return the division of the sets, made sign by sign."""
    division = []
    for sign in SIGNS:
        alike = [cell for cell in division if all((cell[0] in s) == (sign in s) for s in sets)]
        if alike:
            division[division.index(alike[0])] += sign
        else:
            division.append(sign)
    return division


class CellsTest(unittest.TestCase):
    def test_examples(self):
        self.assertEqual(least_signs(cells(["ab", "bc"])), "\tabc")
        self.assertEqual(cell_of(cells(["ab", "bc"]), "b"), 2)

    def test_two_sets(self):
        rest = SIGNS.replace("abc", "")
        self.assertEqual(cells(["ab", "bc"]), [rest, "a", "b", "c"])

    def test_no_sets(self):
        self.assertEqual(cells([]), [SIGNS])

    def test_sets_that_divide_nothing(self):
        self.assertEqual(cells([""]), [SIGNS])
        self.assertEqual(cells([SIGNS]), [SIGNS])
        self.assertEqual(cells(["", SIGNS, ""]), [SIGNS])

    def test_repeated_sets(self):
        self.assertEqual(cells(["ab", "ab", "ab"]), cells(["ab"]))
        self.assertEqual(cells(["ab"] * 100), [SIGNS.replace("ab", ""), "ab"])

    def test_a_set_and_its_complement(self):
        self.assertEqual(cells(["ab", SIGNS.replace("ab", "")]), cells(["ab"]))

    def test_cells_are_ordered_by_their_least_signs(self):
        self.assertEqual(cells(["\tz"]), ["\tz", SIGNS[1:].replace("z", "")])
        self.assertEqual(cells(["xz", "\ny"]), [SIGNS[0] + SIGNS[2:-7] + "{|}~", "\ny", "xz"])

    def test_a_cell_need_not_be_connected(self):
        self.assertEqual(cells(["az", "m"])[1:], ["az", "m"])

    def test_every_sign_alone(self):
        self.assertEqual(cells(list(SIGNS)), list(SIGNS))

    def test_the_order_of_the_sets_does_not_matter(self):
        self.assertEqual(cells(["bc", "", "ab"]), cells(["ab", "bc"]))

    def test_by_definition(self):
        chance = random.Random(2)
        for many in range(12):
            sets = ["".join(s for s in SIGNS if chance.random() < 0.2) for _ in range(many)]
            self.assertEqual(cells(sets), by_definition(sets))

    def test_the_result_is_a_new_list(self):
        sets = ["ab"]
        first = cells(sets)
        first.append("x")
        self.assertEqual(cells(sets), [SIGNS.replace("ab", ""), "ab"])
        self.assertEqual(sets, ["ab"])


class CellOfTest(unittest.TestCase):
    def test_every_sign(self):
        division = cells(["ab", "bc", "$&", "\t\n"])
        for sign in SIGNS:
            self.assertIn(sign, division[cell_of(division, sign)])

    def test_one_cell(self):
        self.assertEqual([cell_of([SIGNS], sign) for sign in "\ta~"], [0, 0, 0])

    def test_neighbours_in_different_cells(self):
        division = cells(["$"])
        self.assertEqual([cell_of(division, sign) for sign in "#$&"], [0, 1, 0])


class LeastSignsTest(unittest.TestCase):
    def test_divisions(self):
        self.assertEqual(least_signs([SIGNS]), "\t")
        self.assertEqual(least_signs(cells(list(SIGNS))), SIGNS)
        self.assertEqual(least_signs(cells(["\tb", "z~"])), "\t\nz")


if __name__ == "__main__":
    unittest.main()
