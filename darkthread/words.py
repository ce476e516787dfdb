"""Words: how names and numbers are written, and read again."""

from darkthread.errors import BadText
from darkthread.house import is_name

FIGURES = "0123456789"
MOST_FIGURES = 10


def is_number(word):
    """Whether a word is a number plainly written, without needless noughts."""
    if word == "0":
        return True
    figures = word[1:] if word.startswith("-") else word
    if not 1 <= len(figures) <= MOST_FIGURES or figures[0] == "0":
        return False
    return all([sign in FIGURES for sign in figures])


def read_name(word):
    """The name that a word is."""
    if not is_name(word):
        raise BadText(0)
    return word


def read_number(word):
    """The number that a word is."""
    if not is_number(word):
        raise BadText(0)
    return int(word)


READERS = {"name": read_name, "number": read_number}


def read_word(word, kind):
    """The name or the number that a word is."""
    reader = READERS[kind]
    return reader(word)
