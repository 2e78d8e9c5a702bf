"""Streams: scans of texts that arrive in pieces."""

from surespan.errors import StreamClosed, TooManyAnswers
from surespan.scanning import answers_from, next_start
from surespan.surescans import SureScan


class Stream:
    """Scans a text that arrives in pieces, and tells each answer as soon as it is sure. Raises NotRegular."""

    def __init__(self, tree):
        self._scan = SureScan(tree)
        self._tree = tree
        self._text = ""
        # Sure answers that have not been told yet.
        self._waiting = []
        # Where the scan goes on behind the answers that have been told.
        self._start = 0
        self._closed = False
        self._told = 0

    def feed(self, piece):
        """Add a piece to the text; return the list of the answers that are sure and have not been told before."""
        self._need_open()
        self._text = self._text + piece
        self._scan.read(piece)
        self._find_sure()
        found = self._waiting
        self._waiting = []
        return self._tell(found)

    def finish(self):
        """Say that the text has ended, and close the stream; return the list of all answers not told before."""
        self._need_open()
        self._closed = True
        return self._tell(list(answers_from(self._tree, self._text, self._start, None)))

    def doubt(self):
        """Return the least text that, put behind the text, changes the first answer that is not sure; or None."""
        if self._closed:
            return None
        self._find_sure()
        return self._scan.doubt()

    @property
    def closed(self):
        """Whether the stream is closed."""
        return self._closed

    @property
    def told(self):
        """The number of the answers that have been told."""
        return self._told

    def __enter__(self):
        return self

    def __exit__(self, kind, value, trace):
        self._closed = True

    def _need_open(self):
        """Raise StreamClosed if the stream is closed."""
        if self._closed:
            raise StreamClosed()

    def _find_sure(self):
        """Put all answers that are sure now with those that wait to be told."""
        answer = self._scan.next_sure()
        while answer is not None:
            self._waiting.append(answer)
            answer = self._scan.next_sure()

    def _tell(self, found):
        """Return the answers of a list, and count them as told."""
        if found:
            self._start = next_start(found[-1][0], found[-1][1])
        self._told = self._told + len(found)
        return found


def drain(stream, pieces, *, limit=None):
    """Feed the pieces of a list to the stream and finish it; return the list of all answers that it tells.

    Raises TooManyAnswers(limit) when there are more than `limit`. The stream is closed afterwards in every case.
    """
    found = []
    with stream:
        for piece in pieces:
            found.extend(stream.feed(piece))
            check_count(found, limit)
        found.extend(stream.finish())
        check_count(found, limit)
    return found


def check_count(found, limit):
    """Raise TooManyAnswers if the list has more items than the limit, which is None if there is none."""
    if limit is not None and len(found) > limit:
        raise TooManyAnswers(limit)
