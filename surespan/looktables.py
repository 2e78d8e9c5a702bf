"""Look tables: at which indexes of a text looks find their bodies."""

from surespan.charts import STOP, chart_of
from surespan.masks import joined, mask_of
from surespan.meaning import edge_holds


def look_table(side, tree, text):
    """Return a list that tells for each index of the text whether a look to this side finds the tree there."""
    return chart_table(side, chart_of(tree), text)


def chart_table(side, chart, text):
    """Return the look table of a look whose body has this chart."""
    return table_ahead(Passage(chart, text)) if side == "ahead" else table_behind(Passage(chart, text))


# In the masks of places, the bit of place 0 stands for the end of a walk where targets are meant: no move leads to
# place 0.

def table_ahead(passage):
    """Return a list that tells for each index whether a walk from it comes to an end."""
    found = []
    # The places from which a walk comes to an end, if it stands there at the index.
    ending = 0
    for index in range(len(passage.text), -1, -1):
        goals = (ending & passage.readers(index)) | 1
        ending = mask_of([place for place, mask in enumerate(passage.target_masks(index)) if mask & goals])
        found.append(ending & 1 == 1)
    return found[::-1]


def table_behind(passage):
    """Return a list that tells for each index whether a walk from it or from an earlier one ends there."""
    found = []
    # The places in which walks stand that have been begun at earlier indexes.
    standing = 0
    for index in range(len(passage.text) + 1):
        targets = joined(standing | 1, passage.target_masks(index))
        found.append(targets & 1 == 1)
        standing = targets & passage.readers(index)
    return found


class Passage:
    """The moves of a chart on a text: which of them may be taken at each index, as far as their tests go."""

    def __init__(self, chart, text):
        self.places = chart[0]
        self.text = text
        # For each test a list that tells at which indexes it holds.
        self.truths = {}
        for number, (side, body) in enumerate(chart[1]):
            table = chart_table(side, body, text)
            self.truths["look", number, True] = table
            self.truths["look", number, False] = [not found for found in table]
        asked = [test for _, moves in self.places for tests, _, _ in moves for test in tests]
        for edge in asked:
            if edge not in self.truths:
                self.truths[edge] = [edge_holds(edge[1], text, index) for index in range(len(text) + 1)]
        # The open moves, and the masks of their targets, by the tests that hold; the readers by the sign.
        self.kept_moves = {}
        self.kept_masks = {}
        self.kept_readers = {}

    def tests_at(self, index):
        """Return a text that tells which tests hold at the index."""
        return "".join(["1" if table[index] else "0" for table in list(self.truths.values())])

    def open_moves(self, index):
        """Return a list with the list of the pairs (marks, target) of each place whose tests hold at the index."""
        key = self.tests_at(index)
        if key not in self.kept_moves:
            self.kept_moves[key] = [
                [(marks, target) for tests, marks, target in moves if all([self.truths[test][index] for test in tests])]
                for _, moves in self.places
            ]
        return list(self.kept_moves[key])

    def target_masks(self, index):
        """Return a list with the mask of the targets of the open moves of each place."""
        key = self.tests_at(index)
        if key not in self.kept_masks:
            self.kept_masks[key] = [
                mask_of([0 if target == STOP else target for _, target in moves]) for moves in self.open_moves(index)
            ]
        return list(self.kept_masks[key])

    def readers(self, index):
        """Return the mask of the places that read the sign at the index; it is empty at the end of the text."""
        sign = self.text[index:index + 1]
        if sign not in self.kept_readers:
            self.kept_readers[sign] = mask_of([
                place for place, (signs, _) in enumerate(self.places) if sign and sign in signs
            ])
        return self.kept_readers[sign]
