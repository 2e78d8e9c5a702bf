"""Reading of pattern texts."""

from surespan.alphabet import DIGITS, SIGNS
from surespan.braces import LOOK_HEADS, leaf_heads, read_head, read_name
from surespan.brackets import read_bracket
from surespan.errors import PatternFault, UnknownGroup
from surespan.notation import SPECIAL_SIGNS, demand, read_escape
from surespan.trees import nodes

REPEATS = {"*": (0, None), "+": (1, None), "?": (0, 1)}


def read_pattern(text):
    """Return the tree of a pattern text; raise PatternFault or UnknownGroup if there is none."""
    tree = PatternReader(text).read()
    check_sames(tree)
    return tree


def check_sames(tree):
    """Raise UnknownGroup for the first `same` in preorder without an earlier group."""
    groups = []
    for node in nodes(tree):
        if node[0] == "group":
            groups.append(node[1])
        elif node[0] == "same" and node[1] not in groups:
            raise UnknownGroup(node[1])


class PatternReader:
    """Reads a pattern text once, from left to right."""

    def __init__(self, text):
        self.text = text
        self.at = 0
        # The open patterns stand in a list, so that deep nesting of a text needs no deep recursion.
        self.levels = [PatternLevel("", (), False)]

    def read(self):
        """Return the tree of the text."""
        while self.at < len(self.text):
            self.read_next()
        if len(self.levels) > 1:
            raise PatternFault(self.at)
        return self.levels[0].tree()

    def read_next(self):
        """Read the next atom, repeat, or sign that begins or ends a pattern or a branch."""
        sign = self.text[self.at]
        level = self.levels[-1]
        if sign == "|":
            level.end_branch()
            self.at = self.at + 1
        elif sign == "(":
            self.levels.append(PatternLevel(")", (), level.in_look))
            self.at = self.at + 1
        elif sign == level.closer:
            self.levels.pop()
            self.levels[-1].add_atom(level.tree())
            self.at = self.at + 1
        elif sign == "{":
            self.read_brace()
        elif sign in "*+?<" and level.open_atom:
            numbers, self.at = read_repeat(self.text, self.at)
            level.repeat_atom(numbers)
        else:
            signs, self.at = read_set(self.text, self.at)
            level.add_atom(("set", signs))

    def read_brace(self):
        """Read the brace form at the index up to the pattern in it, or to its end."""
        level = self.levels[-1]
        head = read_head(self.text, self.at + 1, level.in_look)
        self.at = self.at + 1 + len(head)
        if head in LOOK_HEADS:
            self.levels.append(PatternLevel("}", LOOK_HEADS[head], True))
        elif head == "as ":
            name, self.at = read_name(self.text, self.at, ":")
            self.levels.append(PatternLevel("}", ("group", name), level.in_look))
        elif head == "same ":
            name, self.at = read_name(self.text, self.at, "}")
            level.add_atom(("same", name))
        else:
            level.add_atom(leaf_heads()[head])


class PatternLevel:
    """A pattern that is being read: the whole text, or what stands in parentheses or a brace form."""

    def __init__(self, closer, front, in_look):
        # The sign that ends the pattern; the whole text has none.
        self.closer = closer
        # What stands before the body in the node of a group or a look; empty for other patterns.
        self.front = front
        self.in_look = in_look
        self.branches = []
        self.parts = []
        # Whether the last part is an atom without a repeat, which a repeat may follow.
        self.open_atom = False

    def add_atom(self, tree):
        """Add an atom to the present branch."""
        self.parts.append(tree)
        self.open_atom = True

    def repeat_atom(self, numbers):
        """Put the last atom into a repeat with the triple (least, most, lazy)."""
        self.parts[-1] = ("repeat", self.parts[-1]) + numbers
        self.open_atom = False

    def end_branch(self):
        """End the present branch and begin the next one."""
        self.branches.append(tree_of_list("seq", self.parts))
        self.parts = []
        self.open_atom = False

    def tree(self):
        """Return the tree of the pattern, or the node of its brace form around it."""
        body = tree_of_list("alt", [*self.branches, tree_of_list("seq", self.parts)])
        return self.front + (body,) if self.front else body


def tree_of_list(kind, trees):
    """Return the node of this kind with these trees, or the tree itself if there is only one."""
    if not trees:
        return ("empty",)
    return trees[0] if len(trees) == 1 else (kind, tuple(trees))


def read_set(text, index):
    """Read the sign, escape, dot or bracket set at the index; return its signs and the index behind it."""
    sign = text[index]
    if sign == "[":
        return read_bracket(text, index)
    if sign == "\\":
        return read_escape(text, index, SPECIAL_SIGNS)
    if sign == ".":
        return SIGNS.replace("\n", ""), index + 1
    if sign in SPECIAL_SIGNS:
        raise PatternFault(index)
    return sign, index + 1


def read_repeat(text, index):
    """Read the repeat at the index; return the triple (least, most, lazy) and the index behind it."""
    if text[index] == "<":
        least, most, end = read_numbers(text, index + 1)
    else:
        least, most = REPEATS[text[index]]
        end = index + 1
    if text[end:end + 1] == "~":
        return (least, most, True), end + 1
    return (least, most, False), end


def read_numbers(text, index):
    """Read the numbers at the index and the `>` behind them; return both and the index behind it."""
    least = int(demand(text, index, DIGITS))
    if demand(text, index + 1, ",>") == ">":
        return least, least, index + 2
    if text[index + 2:index + 3] == ">":
        return least, None, index + 3
    most = int(demand(text, index + 2, DIGITS[least:]))
    demand(text, index + 3, ">")
    return least, most, index + 4
