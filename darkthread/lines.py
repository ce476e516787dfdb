"""Lines: deeds as texts, there and back."""

from darkthread.askings import asking_text, read_asking
from darkthread.deeds import DEED_FORMS
from darkthread.errors import BadText
from darkthread.words import read_name, read_word

NO_ROOMS = "-"


def written_rooms(rooms):
    """A row of rooms as one word."""
    if len(rooms) == 0:
        return NO_ROOMS
    return ",".join(rooms)


def written(thing, kind):
    """A thing of a deed, of its kind, as its words."""
    if kind == "rooms":
        return written_rooms(thing)
    if kind == "meet":
        return "yes" if thing else "no"
    if kind == "asking":
        return asking_text(thing)
    return str(thing)


def deed_text(deed):
    """A deed as its words."""
    kinds = DEED_FORMS[deed[0]]
    words = [written(thing, kind) for thing, kind in zip(deed[1:], kinds)]
    return " ".join([deed[0], *words])


def read_rooms(word):
    """The rooms that a word is."""
    if word == NO_ROOMS:
        return ()
    return tuple([read_name(room) for room in word.split(",")])


def read_meet(word):
    """Whether a word is yes or no."""
    if word not in ("yes", "no"):
        raise BadText(0)
    return word == "yes"


def read_thing(text, kind):
    """The thing of a deed, of its kind, that a part of a line is."""
    if kind == "rooms":
        return read_rooms(text)
    if kind == "meet":
        return read_meet(text)
    if kind == "asking":
        return read_asking(text)
    return read_word(text, kind)


def deed_of(text):
    """The deed that a text is."""
    word = text.partition(" ")[0]
    if word not in DEED_FORMS:
        raise BadText(0)
    kinds = DEED_FORMS[word]
    # An asking has blanks of its own, so what comes last is all that is left; elsewhere a blank in it is refused.
    parts = text.split(" ", len(kinds))[1:]
    if len(parts) != len(kinds):
        raise BadText(0)
    things = [read_thing(part, kind) for part, kind in zip(parts, kinds)]
    return (word, *things)
