"""The signs of the notation, and how single signs of it are read and written."""

from surespan.errors import PatternFault

SPECIAL_SIGNS = "\\|*+?<>()[]{}.~^"
BRACKET_SPECIALS = "\\[]^-"
ESCAPED = {"n": "\n", "t": "\t"}
ESCAPES = {"\n": "\\n", "\t": "\\t"}


def demand(text, index, allowed):
    """Return the sign at the index; raise PatternFault unless it is in the text `allowed`."""
    if index >= len(text) or text[index] not in allowed:
        raise PatternFault(index)
    return text[index]


def read_escape(text, index, allowed):
    """Read the escape that begins at the index; return its sign and the index behind it.

    `allowed` holds the signs that stand for themselves in it.
    """
    sign = demand(text, index + 1, allowed + "nt")
    return ESCAPED.get(sign, sign), index + 2


def write_sign(sign, specials):
    """Return the written form of a sign; those of the text `specials` are written as escapes."""
    if sign in specials:
        return "\\" + sign
    return ESCAPES.get(sign, sign)
