"""Replacement of answers, and pieces between separators: points [67], [68], [69], [72] and [73]."""

import unittest

from surespan.answers import Answer
from surespan.errors import UnknownGroup
from surespan.reading import read_pattern
from surespan.replacing import replace_all
from surespan.scanning import scan
from surespan.splitting import split_text
from surespan.templates import fill, read_template
from surespan.trees import group_names
from tests.samples import dense_cases


def replaced(pattern, template, text, limit=None):
    return replace_all(read_pattern(pattern), read_template(template), text, limit=limit)


class ReplaceTest(unittest.TestCase):
    def test_example(self):
        self.assertEqual(replace_all(read_pattern("{as x:b}|c"), read_template("[{x}]"), "abc"), "a[b][]")

    def test_templates(self):
        for pattern, template, text, expected in (
            ("a", "b", "banana", "bbnbnb"), ("a", "", "banana", "bnn"), ("a", "{}{}", "ab", "aab"), ("x", "y", "abc", "abc"), ("x", "y", "", ""),
            ("{as x:.}{as y:.}", "{y}{x}", "abcde", "badce"), ("{as x:a}|{as y:b}", "<{x|no x},{y|no y}>", "ab", "<a,no y><no x,b>"),
            ("[^]", "\\n", "ab", "\n\n"), ("{word}+", "({})", "to be", "(to) (be)"), ("{as x:a*}b", "{x}", "aabb", "aa"),
        ):
            self.assertEqual(replaced(pattern, template, text), expected, (pattern, template))

    def test_empty_answers(self):
        self.assertEqual(replaced("", "-", "ab"), "-a-b-")
        self.assertEqual(replaced("", "-", ""), "-")
        self.assertEqual(replaced("a*", "-", "baac"), "-b--c-")
        self.assertEqual(replaced("{word edge}", "|", "to be"), "|to| |be|")
        self.assertEqual(replaced("a*~", "-", "aa"), "-a-a-")

    def test_limits(self):
        for limit, expected in ((None, "xbxxb"), (0, "abaab"), (1, "xbaab"), (2, "xbxab"), (3, "xbxxb"), (4, "xbxxb"), (10 ** 30, "xbxxb")):
            self.assertEqual(replaced("a", "x", "abaab", limit), expected)

    def test_empty_answers_count(self):
        for limit, expected in ((0, "ba"), (1, "-ba"), (2, "-b-"), (3, "-b--"), (4, "-b--")):
            self.assertEqual(replaced("a*", "-", "ba", limit), expected)

    def test_trees_that_are_not_regular(self):
        self.assertEqual(replaced("{as x:a|b}{same x}", "<{x}>", "aabab"), "<a>bab")

    def test_unknown_groups(self):
        for pattern, template, name in (
            ("a", "{x}", "x"), ("{as x:a}", "{y}", "y"), ("{as x:a}", "{x}{z|o}{y}", "z"), ("{as xx:a}", "{}{x}", "x"), ("{as x:a}", "{xx}", "xx"),
        ):
            for text in ("", "a", "b"):
                for limit in (None, 0, 1, 10 ** 30):
                    with self.assertRaises(UnknownGroup) as caught:
                        replaced(pattern, template, text, limit)
                    self.assertEqual(caught.exception.name, name)
        # A group that is never set is a group of the tree.
        self.assertEqual(replaced("a|{as x:[]}", "{x|-}", "ba"), "b-")
        self.assertEqual(replaced("a{as x:b}<0>", "{x|-}", "ba"), "b-")

    def test_many_trees(self):
        for tree, text, index in dense_cases(72, 500):
            names = group_names(tree)
            template = read_template("<{}" + "".join("{" + name + "|none}" for name in names) + ">")
            answers = scan(tree, text)
            for limit in (None, 0, 1, 2, len(answers), len(answers) + 1):
                expected, behind = "", 0
                for start, end, row in answers if limit is None else answers[:limit]:
                    expected += text[behind:start] + fill(template, Answer(text, start, end, row))
                    behind = end
                self.assertEqual(replace_all(tree, template, text, limit=limit), expected + text[behind:])
            self.assertEqual(replace_all(tree, (("whole",),), text), text)


class SplitTest(unittest.TestCase):
    def test_example(self):
        self.assertEqual(split_text(read_pattern(",{blank}*"), "a, b,c", keep=True), ["a", ", ", "b", ",", "c"])

    def test_pieces(self):
        for pattern, text, expected in (
            (",", "a,b,c", ["a", "b", "c"]), (",", "", [""]), (",", "abc", ["abc"]), (",", ",", ["", ""]), (",", ",a,,", ["", "a", "", ""]),
            (",+", "a,,b", ["a", "b"]), ("[]", "ab", ["ab"]), ("[^]", "ab", ["", "", ""]), ("{line start}#", "#a#\n#b", ["", "a#\n", "b"]),
        ):
            self.assertEqual(split_text(read_pattern(pattern), text), expected, (pattern, text))

    def test_empty_answers_are_no_separators(self):
        for pattern, text, expected in (
            ("", "ab", ["ab"]), ("", "", [""]), ("{word edge}", "a b", ["a b"]), (",*", "a,,b", ["a", "b"]), ("a*", "baac", ["b", "c"]), (",?~", "a,b", ["a,b"]),
        ):
            self.assertEqual(split_text(read_pattern(pattern), text), expected, (pattern, text))

    def test_limits(self):
        tree = read_pattern(",")
        for limit, expected in (
            (None, ["a", "b", "", "c"]), (0, ["a,b,,c"]), (1, ["a", "b,,c"]), (2, ["a", "b", ",c"]), (3, ["a", "b", "", "c"]), (10 ** 30, ["a", "b", "", "c"]),
        ):
            self.assertEqual(split_text(tree, "a,b,,c", limit=limit), expected)
        # Empty answers do not count here.
        self.assertEqual(split_text(read_pattern(",*"), "a,,b,c", limit=1), ["a", "b,c"])

    def test_kept_separators(self):
        tree = read_pattern("{as x:,|;}")
        self.assertEqual(split_text(tree, "a,b;c", keep=True), ["a", ",", "b", ";", "c"])
        self.assertEqual(split_text(tree, "a,b;c", keep=False), ["a", "b", "c"])
        self.assertEqual(split_text(tree, "a,b;c", limit=1, keep=True), ["a", ",", "b;c"])
        self.assertEqual(split_text(tree, "a,b;c", limit=0, keep=True), ["a,b;c"])
        self.assertEqual(split_text(read_pattern(",*"), "a,,b", keep=True), ["a", ",,", "b"])
        self.assertEqual(split_text(tree, ",", keep=True), ["", ",", ""])

    def test_trees_that_are_not_regular(self):
        self.assertEqual(split_text(read_pattern("{as x:.}{same x}"), "abbcdd"), ["a", "c", ""])

    def test_many_trees(self):
        for tree, text, index in dense_cases(73, 500):
            spans = [(start, end) for start, end, _ in scan(tree, text) if end > start]
            for limit in (None, 0, 1, 2, len(spans), len(spans) + 1):
                used = spans if limit is None else spans[:limit]
                bounds = [0] + [index for span in used for index in span] + [len(text)]
                parts = [text[start:end] for start, end in zip(bounds, bounds[1:])]
                self.assertEqual(split_text(tree, text, limit=limit, keep=True), parts)
                self.assertEqual(split_text(tree, text, limit=limit), parts[::2])
                self.assertEqual("".join(parts), text)


if __name__ == "__main__":
    unittest.main()
