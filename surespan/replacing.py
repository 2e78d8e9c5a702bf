"""Replacement of the answers in a text."""

from surespan.answers import Answer
from surespan.errors import UnknownGroup
from surespan.scanning import answers_from
from surespan.templates import fill
from surespan.trees import group_names


def replace_all(tree, template, text, *, limit=None):
    """Return the text in which the first `limit` answers of the scan, or all, are replaced with their template.

    Raises UnknownGroup if the template names a group that the tree does not have.
    """
    check_groups(tree, template)
    found = []
    behind = 0
    for start, end, row in answers_from(tree, text, 0, limit):
        found.extend([text[behind:start], fill(template, Answer(text, start, end, row))])
        behind = end
    return "".join([*found, text[behind:]])


def check_groups(tree, template):
    """Raise UnknownGroup for the first part of the template that names a group which the tree does not have."""
    known = group_names(tree)
    for part in template:
        if part[0] == "group" and part[1] not in known:
            raise UnknownGroup(part[1])
