"""Templates: what answers are replaced with."""

from surespan.errors import TemplateFault
from surespan.names import NAME_LENGTH, NAME_SIGNS, NAME_STARTS
from surespan.notation import ESCAPED, write_sign

# The signs that do not stand for themselves in a text part, and in the other text of a group part.
TEXT_SPECIALS = "\\{}"
OTHER_SPECIALS = "\\{}|"


def read_template(text):
    """Return the template of a template text; raise TemplateFault if it has none."""
    parts = []
    index = 0
    while index < len(text):
        if text[index] == "{":
            part, index = read_brace(text, index)
        else:
            signs, index = read_signs(text, index, "{", TEXT_SPECIALS)
            part = ("text", signs)
        parts.append(part)
    return tuple(parts)


def read_brace(text, index):
    """Read the brace form at the index; return its part and the index behind it."""
    if text[index + 1:index + 2] == "}":
        return ("whole",), index + 2
    demand_sign(text, index + 1, NAME_STARTS)
    end = index + 2
    while text[end:end + 1] not in ("}", "|"):
        demand_sign(text, end, NAME_SIGNS if end - index <= NAME_LENGTH else "")
        end = end + 1
    name = text[index + 1:end]
    if text[end] == "}":
        return ("group", name, ""), end + 1
    other, end = read_signs(text, end + 1, "}", OTHER_SPECIALS)
    demand_sign(text, end, "}")
    return ("group", name, other), end + 1


def read_signs(text, index, stop, specials):
    """Read signs up to the sign `stop` or the end of the text; return what they stand for and the index behind them.

    The signs in `specials` are written with a backslash before them.
    """
    found = ""
    while index < len(text) and text[index] != stop:
        sign = text[index]
        if sign == "\\":
            index = index + 1
            sign = demand_sign(text, index, specials + "nt")
            sign = ESCAPED.get(sign, sign)
        elif sign in specials:
            raise TemplateFault(index)
        found = found + sign
        index = index + 1
    return found, index


def demand_sign(text, index, allowed):
    """Return the sign at the index; raise TemplateFault unless it is in the text `allowed`."""
    if index >= len(text) or text[index] not in allowed:
        raise TemplateFault(index)
    return text[index]


def write_template(template):
    """Return the canonical template text of a template."""
    return "".join([write_part(part) for part in template])


def write_part(part):
    """Return the written form of a part of a template."""
    if part[0] == "text":
        return write_signs(part[1], TEXT_SPECIALS)
    if part[0] == "whole":
        return "{}"
    name, other = part[1:]
    return "{" + name + ("|" + write_signs(other, OTHER_SPECIALS) if other else "") + "}"


def write_signs(signs, specials):
    """Return the written form of a text in a template; the signs in `specials` get a backslash."""
    return "".join([write_sign(sign, specials) for sign in signs])


def fill(template, answer):
    """Return the text that the template stands for, for an `Answer`."""
    return "".join([filled_part(part, answer) for part in template])


def filled_part(part, answer):
    """Return the text for which a part of a template stands."""
    if part[0] == "text":
        return part[1]
    if part[0] == "whole":
        return answer.whole
    return answer[part[1]] if part[1] in answer else part[2]
