"""Answers on texts."""

from surespan.errors import UnknownGroup
from surespan.rows import captured_text


class Answer:
    """An answer on a text: the span from `start` to `end`, with the capture row `row`."""

    def __init__(self, text, start, end, row):
        self.text = text
        self.start = start
        self.end = end
        self.row = row
        self._names = tuple([name for name, _, _ in row])

    @property
    def whole(self):
        """The text of the span."""
        return self.text[self.start:self.end]

    def span(self, name):
        """Return the pair (start, end) to which the name is set, or None if it is not set."""
        for known, start, end in self.row:
            if known == name:
                return start, end
        return None

    def __getitem__(self, name):
        found = captured_text(self.row, self.text, name)
        if found is None:
            raise UnknownGroup(name)
        return found

    def __contains__(self, name):
        return name in self._names

    def __len__(self):
        return len(self._names)

    def __iter__(self):
        return iter(self._names)

    def __eq__(self, other):
        return (
            isinstance(other, Answer) and self.text == other.text and self.start == other.start
            and self.end == other.end and self.row == other.row
        )
