"""Reading of bracket sets."""

from surespan.alphabet import precedes
from surespan.errors import PatternFault
from surespan.notation import BRACKET_SPECIALS, read_escape
from surespan.signsets import SignSet


def read_bracket(text, index):
    """Read the bracket set that begins at the index; return its set text and the index behind it."""
    at = index + 1
    negated = text[at:at + 1] == "^"
    if negated:
        at = at + 1
    found = SignSet()
    while text[at:at + 1] != "]":
        entry, at = read_entry(text, at)
        found = found | entry
    if negated:
        found = ~found
    return found.members, at + 1


def read_entry(text, index):
    """Read the entry at the index; return the set of its signs and the index behind it."""
    first, at = read_member(text, index)
    if text[at:at + 1] != "-":
        return SignSet(first), at
    last, behind = read_member(text, at + 1)
    if precedes(last, first):
        raise PatternFault(at + 1)
    return SignSet.between(first, last), behind


def read_member(text, index):
    """Read the sign of an entry at the index; return it and the index behind it."""
    if text[index:index + 1] == "\\":
        return read_escape(text, index, BRACKET_SPECIALS)
    if index == len(text) or text[index] in BRACKET_SPECIALS:
        raise PatternFault(index)
    return text[index], index + 1
