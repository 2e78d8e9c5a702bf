"""Growth of the number of ways: points [14], [58] and [59] (surespan.growth)."""

import unittest

from surespan.alphabet import texts_up_to
from surespan.errors import NotPlain
from surespan.growth import growth, pump
from surespan.measures import weight
from surespan.reading import read_pattern
from surespan.trees import is_plain, node_at, paths, with_node
from surespan.waycharts import way_chart
from surespan.waycounts import whole_ways
from tests.samples import A, B, Dense, edge, group, look, repeat, same, seq, trees_of_each_form


def matrix_of(places, sign):
    """Return the numbers of moves between the places of a way chart by one sign."""
    count = len(places)
    return [
        [sum(1 for _, _, to in places[place][1] if to == target and sign in places[target][0]) for target in range(count)]
        for place in range(count)
    ]


def product(one, two):
    count = range(len(one))
    # A number above 2 says no more than 2.
    return tuple(tuple(min(2, sum(one[i][k] * two[k][j] for k in count)) for j in count) for i in count)


def matrices(places, signs, size):
    """Return the different matrices of all texts with one sign or more, up to a size."""
    single = [tuple(tuple(min(2, number) for number in row) for row in matrix_of(places, sign)) for sign in signs]
    found = dict.fromkeys(single)
    last = list(found)
    for _ in range(size - 1):
        last = [matrix for matrix in {product(one, two): None for one in last for two in single} if matrix not in found]
        found.update(dict.fromkeys(last))
    return list(found)


def growth_by_matrices(tree, signs, size):
    """Return the growth as the texts up to a size show it, by two ways in a loop and by chains of links."""
    places = way_chart(tree)[0]
    found = matrices(places, signs, size)
    count = range(len(places))
    leads = [[i == j or any(matrix[i][j] for matrix in found) for j in count] for i in count]
    ends = [any(to == -1 for _, _, to in moves) for _, moves in places]
    useful = [leads[0][i] and any(leads[i][j] and ends[j] for j in count) for i in count]
    if any(matrix[i][i] > 1 for matrix in found for i in count if useful[i]):
        return None
    links = {
        (i, j) for matrix in found for i in count for j in count
        if useful[i] and useful[j] and i != j and matrix[i][i] and matrix[i][j] and matrix[j][j]
    }
    longest = {place: 0 for place in count}
    for _ in count:
        for i, j in links:
            for place in count:
                if leads[place][i]:
                    longest[place] = max(longest[place], 1 + longest[j])
    return longest[0]


def with_one_sign(tree):
    """Return the tree in which each set that is not empty has the sign `a` alone."""
    for path in paths(tree):
        if node_at(tree, path)[0] == "set" and node_at(tree, path)[1]:
            tree = with_node(tree, path, A)
    return tree


class GrowthTest(unittest.TestCase):
    def check_pump(self, tree, most=6):
        """Check the texts of `pump` by numbers of ways; return the growth."""
        power, texts = growth(tree), pump(tree)
        self.assertIs(type(texts), tuple)
        self.assertTrue(all(type(text) is str for text in texts))
        if power == 0:
            self.assertEqual(texts, ())
            return 0
        self.assertEqual(len(texts), 3 if power is None else 2 * power + 1)
        self.assertTrue(all(texts[1::2]), (tree, texts))
        for times in range(1, most):
            text = "".join(part * times if at % 2 else part for at, part in enumerate(texts))
            least = 2 ** times if power is None else times ** power
            self.assertGreaterEqual(whole_ways(tree, text), least, (tree, text))
        return power

    def check_pattern(self, pattern, expected):
        self.assertEqual(growth(read_pattern(pattern)), expected, pattern)
        self.assertEqual(self.check_pump(read_pattern(pattern)), expected, pattern)

    def test_example(self):
        self.assertEqual([growth(read_pattern(pattern)) for pattern in ("a*b*", "a*a*", "(a|a)*")], [0, 1, None])

    def test_bounded_growth(self):
        for pattern in (
            "", "a", "a*", "a*b*", "(a|b)*", "a|a|a", "(a?)<9>", "(|a)<9>", "(a|a)<9>", "(ab|ba)*", "((a|)b)*", "(()|())a*", "(a|[])*",
            "a*(|)b*(b|b)c*", "(a?)*", "(a|)*", "(a*b)*", "((a*b)*c)*", "[ab]*c[ab]*", "{as x:a*}b{as y:a*}", "(a<3>)*~", "(a*|b*)(c|c)<9>",
        ):
            self.check_pattern(pattern, 0)

    def test_trees_that_accept_nothing(self):
        for pattern in ("[]", "a[]", "(a|a)*[]", "[](a|a)*", "a*a*[]", "([]|[]a*)*[]", "((a|a)*[])<2>"):
            self.check_pattern(pattern, 0)
        # What cannot be brought to an end does not count.
        self.check_pattern("(a|a)*[]|b*", 0)
        self.check_pattern("[](a|a)*|b*b*", 1)
        self.check_pattern("(a*a*[]|b)*", 0)
        self.check_pattern("([]|a)*a*", 1)

    def test_powers(self):
        for pattern, expected in (
            ("a*a*", 1), ("a*a*a*", 2), ("a+a+", 1), ("(a*)<2>", 1), ("(a*)<5>", 4), (".*a.*", 1), ("(.*a)<4>.*", 4), ("a*b*a*", 1),
            ("a*ba*ba*", 0), ("(aa)*(aaa)*", 1), ("[ab]*[bc]*[cd]*", 2), ("[ab]*[cd]*[bc]*", 1), ("a*b|a*a*", 1), ("a*a*b|c*c*c*", 2),
            ("(a*a*|b)<3>", 5), ("(ab)*a?(ba)*", 1), ("(ab)*(ba)*", 0), ("a*[]?a*", 1), ("a*~a*~", 1), ("a*(|a)a*", 1), ("a*b?a*", 1),
            ("(ab|c)*(c|ab)*", 1), ("(a|b)*ab*b*", 1), ("(a<2>)*(a<3>)*(a<4>)*", 2), ("(a|a)a*(b|b)a*", 0), ("{as x:a*}{as y:a*}", 1),
        ):
            self.check_pattern(pattern, expected)

    def test_exponential_growth(self):
        for pattern in (
            "(a|a)*", "(a*)*", "(a*)+", "(a*b?)*", "(a|aa)*", "(ab|a|b)*", "((a|)*)*", "(a?b?)*", "(a*a*)*", "b*(a|a)*b*", "(a|b|[ab])*",
            "((|)a)*", "(a(|))*", "((a|ab)(c|bc))*", "(a<2>|a<3>)*", "({as x:a}|{as y:a})*", "(a*b*)*", "a*((b|c)|[cd])*",
        ):
            self.check_pattern(pattern, None)

    def test_repeats_in_repeats(self):
        for pattern, expected in (
            ("((a<2>)*b)*", 0), ("((a*)<2>b)*", None), ("((a?)<2>b)*", None), ("((a?)<2>b)<3>", 0), ("((a*)<2>b)<3>", 3), ("(((a|b)*c)*d)*", 0),
            ("((a<0,2>)<0,2>)*", None), ("((a*)<1>)<2>", 1), ("((a?)+)<2>", 1), ("((a?)*)<2,3>", 2),
        ):
            self.check_pattern(pattern, expected)

    def test_one_sign(self):
        # With one sign only, there is one text of each length; so the numbers of ways show how they grow.
        growing = Dense(580, signs="a", kinds=())
        met = {}
        for _ in range(400):
            tree = with_one_sign(growing.tree(growing.chance.choice((3, 4, 4, 5))))
            if weight(tree) > 12:
                continue
            power = self.check_pump(tree)
            best = {size: max(whole_ways(tree, "a" * length) for length in range(size - 24, size + 1)) for size in (120, 240)}
            if power is None:
                self.assertGreater(best[240], best[120] ** 2 // 1000)
                self.assertGreater(best[240], 2 ** 8 * best[120])
            else:
                self.assertLessEqual(best[240], 2 ** (power + 1) * best[120])
                self.assertGreaterEqual(4 * best[240], 2 ** power * best[120])
            met[power] = met.get(power, 0) + 1
        self.assertTrue({0, 1, 2, None} <= set(met), met)

    def test_many_trees(self):
        growing = Dense(581, kinds=())
        met = {}
        for _ in range(500):
            tree = growing.tree(growing.chance.choice((3, 4, 4, 5)))
            if weight(tree) <= 5:
                power = self.check_pump(tree)
                self.assertEqual(power, growth_by_matrices(tree, "\nab", 8), tree)
                met[power] = met.get(power, 0) + 1
        self.assertTrue({0, 1, 2, None} <= set(met), met)

    def test_bounded_numbers_of_ways(self):
        growing = Dense(582, kinds=())
        for _ in range(200):
            tree = growing.tree(3)
            if weight(tree) <= 6 and growth(tree) == 0:
                found = [max(whole_ways(tree, text) for text in texts_up_to("ab", size)) for size in (6, 7)]
                self.assertEqual(found[0], found[1], tree)

    def test_trees_of_each_form(self):
        for tree in trees_of_each_form():
            if is_plain(tree):
                self.assertEqual(self.check_pump(tree), growth_by_matrices(tree, "ab", 4), tree)

    def test_not_plain(self):
        for tree in (same("x"), edge("start"), look(A), seq(A, edge("end")), repeat(look(B), 0, 0), seq(group("x", A), same("x"))):
            for call in (growth, pump):
                with self.assertRaises(NotPlain):
                    call(tree)


if __name__ == "__main__":
    unittest.main()
