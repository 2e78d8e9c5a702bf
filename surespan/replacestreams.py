"""Replacement of the answers in a text that arrives in pieces."""

from surespan.answers import Answer
from surespan.replacing import check_groups
from surespan.streams import Stream
from surespan.templates import fill


class ReplaceStream:
    """Replaces the answers in a text that arrives in pieces. Raises NotRegular, and then UnknownGroup."""

    def __init__(self, tree, template):
        self._stream = Stream(tree)
        check_groups(tree, template)
        self._template = template
        self._text = ""
        # The index behind the last answer that has been replaced.
        self._behind = 0

    def feed(self, piece):
        """Add a piece to the text; return the next part of the replaced text."""
        answers = self._stream.feed(piece)
        self._text = self._text + piece
        return self._replaced(answers)

    def finish(self):
        """Say that the text has ended; return the rest of the replaced text."""
        answers = self._stream.finish()
        return self._replaced(answers) + self._text[self._behind:]

    def _replaced(self, answers):
        """Return the replaced text from behind the last answer up to the last one of a list."""
        found = []
        for start, end, row in answers:
            found.append(self._text[self._behind:start])
            found.append(fill(self._template, Answer(self._text, start, end, row)))
            self._behind = end
        return "".join(found)
