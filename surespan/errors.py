"""The errors that the program raises."""


class SpanError(ValueError):
    """The base class of all errors that the program raises."""

    # Without this constructor, the classes without fields would take any arguments.
    def __init__(self):
        super().__init__()


class PatternFault(SpanError):
    """A text is not a pattern text; the sign at `index` is not allowed or missing."""

    def __init__(self, index):
        self.index = index


class TemplateFault(SpanError):
    """A text is not a template text; the sign at `index` is not allowed or missing."""

    def __init__(self, index):
        self.index = index


class BadTree(SpanError):
    """A tree is not well-formed; the node at `path` is the first one that breaks a rule."""

    def __init__(self, path):
        self.path = path


class UnknownGroup(SpanError):
    """No group with this `name` is there, or none has been captured."""

    def __init__(self, name):
        self.name = name


class NotRegular(SpanError):
    """A tree contains a `same`, but only a regular tree is allowed."""


class NotPlain(SpanError):
    """A tree contains a `same`, a `look` or an `edge`, but only a plain tree is allowed."""


class StreamClosed(SpanError):
    """A stream that is closed has been asked for more."""


class OutOfSteps(SpanError):
    """The runs would need more steps than `budget`."""

    def __init__(self, budget):
        self.budget = budget


class TooManyStates(SpanError):
    """There are more states than `limit`."""

    def __init__(self, limit):
        self.limit = limit


class TooManyAnswers(SpanError):
    """There are more answers than `limit`."""

    def __init__(self, limit):
        self.limit = limit


class NoSuchText(SpanError):
    """A machine accepts only `count` texts, and a later one has been asked for."""

    def __init__(self, count):
        self.count = count
