"""The names of groups."""

NAME_STARTS = "abcdefghijklmnopqrstuvwxyz"
NAME_SIGNS = "0123456789_abcdefghijklmnopqrstuvwxyz"
NAME_LENGTH = 12


def is_name(text):
    """Return True if the text is a name, otherwise False."""
    if not 1 <= len(text) <= NAME_LENGTH:
        return False
    return text[0] in NAME_STARTS and all([sign in NAME_SIGNS for sign in text])
