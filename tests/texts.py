"""How deeds and askings are written: their forms, and which texts are some."""

from tests.plain import Chance

NAMES = ("a", "hall", "zz", "upstairs", "abcdefgh", "way", "wheel", "no", "z")
NUMBERS = (0, 1, -1, 9, 10, -10, 99, 100, 10 ** 9, -(10 ** 9), 10 ** 9 + 1, 9999999999, -9999999999, 1234567890)
ASKING_FORMS = (("where", "name", "number"), ("who", "name", "number"), ("lit", "number"), ("wheel",),
                ("meets", "name", "name"), ("way", "name", "name"), ("way", "name", "name", "number"),
                ("linger", "name", "number"))
DEED_FORMS = {"room": ("name",), "strike": ("name",), "door": ("name", "name"), "wall": ("name", "name"),
              "sight": ("name", "name"), "curtain": ("name", "name"), "post": ("name", "rooms", "number"), "call": ("name",),
              "delay": ("name", "number"), "watcher": ("name", "number"), "leave": ("name",), "lamp": ("name", "number"),
              "rule": ("meet", "number"), "watch": ("name", "asking"), "unwatch": ("name",)}


def askings():
    """Askings of each form with names and numbers of all sizes."""
    chance = Chance(5)
    for word, *kinds in ASKING_FORMS:
        for turn in range(30):
            yield word, *[chance.one_of(NAMES if kind == "name" else NUMBERS) for kind in kinds]


def is_written(text):
    """Whether a text is an asking's, word by word."""
    words = text.split(" ")
    for word, *kinds in ASKING_FORMS:
        if words[0] == word and len(words) == len(kinds) + 1:
            return all(is_named(thing) if kind == "name" else is_counted(thing)
                       for thing, kind in zip(words[1:], kinds))
    return False


def is_named(word):
    return 1 <= len(word) <= 8 and set(word) <= set("abcdefghijklmnopqrstuvwxyz")


def is_counted(word):
    figures = word[1:] if word[:1] == "-" else word
    return 1 <= len(figures) <= 10 and set(figures) <= set("0123456789") and str(int(word)) == word


def is_line(text):
    """Whether a text is a deed's, part by part."""
    words = text.split(" ")
    kinds = DEED_FORMS.get(words[0])
    if kinds is None:
        return False
    if kinds[-1] == "asking":
        words = words[:2] + [" ".join(words[2:])] if len(words) > 2 else words
    tests = {"name": is_named, "number": is_counted, "meet": lambda word: word in ("yes", "no"), "asking": is_written,
             "rooms": lambda word: word == "-" or all(is_named(room) for room in word.split(","))}
    return len(words) == len(kinds) + 1 and all(tests[kind](word) for word, kind in zip(words[1:], kinds))


def bent_signs(text, signs):
    """Texts with a sign out, put in, exchanged or doubled."""
    for at in range(len(text) + 1):
        yield text[:at] + text[at + 1:]
        yield text[:at] + text[at:at + 1] + text[at:]
        for sign in signs:
            yield text[:at] + sign + text[at:]
            yield text[:at] + sign + text[at + 1:]
