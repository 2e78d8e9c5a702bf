"""The 96 signs, their order, and the order of texts."""

SIGNS = (
    "\t\n !\"#$&'()*+,-./0123456789:;<=>?@"
    "ABCDEFGHIJKLMNOPQRSTUVWXYZ[\\]^_`abcdefghijklmnopqrstuvwxyz{|}~"
)
DIGITS = "0123456789"
LETTERS = "ABCDEFGHIJKLMNOPQRSTUVWXYZabcdefghijklmnopqrstuvwxyz"
BLANKS = "\t\n "
WORD_SIGNS = "0123456789ABCDEFGHIJKLMNOPQRSTUVWXYZ_abcdefghijklmnopqrstuvwxyz"


def rank(sign):
    """Return the number of a sign in the order of the signs, from 0."""
    return SIGNS.index(sign)


def precedes(text, other):
    """Return True if the text precedes the other one in text order, otherwise False."""
    # Signs are ordered by character code, and so Python compares texts of one length.
    return (len(text), text) < (len(other), other)


def next_text(text, signs):
    """Return the text over the set text `signs` that follows `text` in text order."""
    kept = text.rstrip(signs[-1])
    tail = signs[0] * (len(text) - len(kept))
    if kept == "":
        return signs[0] + tail
    return kept[:-1] + signs[signs.index(kept[-1]) + 1] + tail


def texts_up_to(signs, length):
    """Yield all texts over the set text `signs` with at most `length` signs, in text order."""
    yield ""
    if signs:
        text = signs[0]
        while len(text) <= length:
            yield text
            text = next_text(text, signs)


def is_set_text(text):
    """Return True if the signs of the text are strictly ascending, otherwise False."""
    return all([sign < following for sign, following in zip(text, text[1:])])
