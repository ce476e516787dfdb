"""Deeds as texts, there and back."""

import unittest

from darkthread.errors import BadText
from darkthread.lines import deed_of, deed_text
from tests.plain import Chance
from tests.refusing import Refusing
from tests.texts import DEED_FORMS, NAMES, NUMBERS, askings, bent_signs, is_line

ASKINGS = list(askings())
BY_HAND = (
    ("room hall", ("room", "hall")), ("strike abcdefgh", ("strike", "abcdefgh")), ("door a b", ("door", "a", "b")),
    ("wall a a", ("wall", "a", "a")), ("sight hall attic", ("sight", "hall", "attic")),
    ("curtain attic hall", ("curtain", "attic", "hall")),
    ("post p hall,stair,hall 2", ("post", "p", ("hall", "stair", "hall"), 2)), ("post p - 0", ("post", "p", (), 0)),
    ("post p hall -1", ("post", "p", ("hall",), -1)), ("post post a,a,a,a,a,a,a 9", ("post", "post", ("a",) * 7, 9)),
    ("call p", ("call", "p")), ("delay p -9999999999", ("delay", "p", -9999999999)),
    ("watcher zoe 1", ("watcher", "zoe", 1)), ("leave zoe", ("leave", "zoe")), ("lamp zoe 7", ("lamp", "zoe", 7)),
    ("rule yes 3", ("rule", True, 3)), ("rule no 0", ("rule", False, 0)), ("rule no -12", ("rule", False, -12)),
    ("watch w way hall attic -4", ("watch", "w", ("way", "hall", "attic", -4))),
    ("watch w wheel", ("watch", "w", ("wheel",))), ("watch watch lit 0", ("watch", "watch", ("lit", 0))),
    ("unwatch w", ("unwatch", "w")))


def some_thing(chance, kind):
    if kind == "name":
        return chance.one_of(NAMES)
    if kind == "number":
        return chance.one_of(NUMBERS)
    if kind == "meet":
        return chance.below(2) == 0
    if kind == "asking":
        return chance.one_of(ASKINGS)
    return tuple(chance.one_of(NAMES) for at in range(chance.below(8)))


def written(thing, kind):
    """A thing of a deed, as the document writes it."""
    if kind == "meet":
        return {True: "yes", False: "no"}[thing]
    if kind == "asking":
        return " ".join(map(str, thing))
    if kind == "rooms":
        return ",".join(thing) or "-"
    return str(thing)


def deeds():
    """Deeds of each word with names, numbers, rounds and askings of all sizes."""
    chance = Chance(3)
    for word, kinds in DEED_FORMS.items():
        for turn in range(60):
            yield word, *[some_thing(chance, kind) for kind in kinds]


def bent(text):
    """Lines with a sign out, put in, exchanged or doubled, or a word out, twice or exchanged."""
    yield from bent_signs(text, " a0-,Z\n")
    words = text.split(" ")
    for at in range(len(words)):
        yield " ".join(words[:at] + words[at + 1:])
        yield " ".join(words[:at] + words[at:at + 1] + words[at:])
        for other in ("hall", "3", "-", "yes", "wheel", ""):
            yield " ".join(words[:at] + [other] + words[at + 1:])


class ThereAndBack(unittest.TestCase):
    def test_by_hand(self):
        for text, deed in BY_HAND:
            self.assertEqual(deed_text(deed), text)
            self.assertEqual(deed_of(text), deed)
            self.assertEqual(deed_text(deed=deed), text)
            self.assertEqual(deed_of(text=text), deed)
        self.assertEqual({deed[0] for text, deed in BY_HAND}, set(DEED_FORMS))

    def test_written_and_read(self):
        for deed in deeds():
            text = deed_text(deed)
            self.assertEqual(text, " ".join([deed[0]] + [written(*pair) for pair in zip(deed[1:], DEED_FORMS[deed[0]])]))
            found = deed_of(text)
            self.assertEqual(found, deed)
            self.assertEqual([type(found), *map(type, found)], [tuple, *map(type, deed)])
            self.assertTrue(is_line(text))


class BadLines(Refusing):
    def check_bad(self, *texts):
        for text in texts:
            self.check_refused(BadText, 0, deed_of, text)

    def test_bent(self):
        read = 0
        for text, deed in BY_HAND:
            for other in bent(text):
                if is_line(other):
                    self.assertEqual(deed_text(deed_of(other)), other)
                    read += 1
                else:
                    self.check_bad(other)
        self.assertGreater(read, 200)

    def test_of_no_form(self):
        self.check_bad("", " ", "\n", "-", "rooms hall", "Room hall", "undo", "redo", "notes", "ask wheel", "wheel",
                       "done", "room", "room ", " room hall", "room hall ", "room  hall", "room hall\n", "room hall den",
                       "room Hall", "room ninesigns", "room 3", "room hall,den")

    def test_rooms(self):
        for rooms in ("", ",", "a,", ",a", "a,,b", "--", "-,a", "a,-", "a b", "A", "a,B", "ninesigns", "a,ninesigns", "0",
                      "a.b", "a;b", "a, b"):
            self.check_bad(f"post p {rooms} 0")
        for rooms in ("-", "a", "a,b", "abcdefgh,z", ",".join("abcdefghijklm")):
            self.assertEqual(deed_text(deed_of(f"post p {rooms} 0")), f"post p {rooms} 0")

    def test_numbers(self):
        for number in ("00", "-0", "01", "+1", "", "-", "1.", "10000000000", "-10000000000", "a", "1a", "yes", " 1"):
            self.check_bad(f"delay p {number}", f"watcher w {number}", f"lamp w {number}", f"rule yes {number}",
                           f"post p a {number}", f"watch w lit {number}")

    def test_meet(self):
        for meet in ("Yes", "NO", "", "true", "True", "1", "0", "y", "n", "-", "none", "yesno"):
            self.check_bad(f"rule {meet} 3")

    def test_askings(self):
        self.check_bad("watch", "watch w", "watch w ", "watch wheel", "watch w  wheel", "watch w wheel ", "watch w odd",
                       "watch w wheel 3", "watch w way a", "watch w way a b c", "watch w lit a", "watch W wheel",
                       "watch  wheel", "watch w watch w wheel", "watch w none", "watch w -")


if __name__ == "__main__":
    unittest.main()
