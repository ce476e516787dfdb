"""A cause of each of the twenty-one refusals: its class, the class above it, its field and its word."""

import unittest

from darkthread import errors
from darkthread.askings import read_asking
from darkthread.bars import least_delays
from darkthread.book import Book
from darkthread.house import House
from darkthread.pages import read_page
from darkthread.rounds import need_round
from darkthread.scene import Scene
from darkthread.several import together
from tests.plainbook import book_of

HOUSE = House(("hall", "stair", "attic"), (("hall", "stair"), ("stair", "attic")))
SIXES = [(name, ("hall",) * 6, 0) for name in "abcd"]
DEEDS = (("room", "hall"), ("room", "den"), ("door", "hall", "den"), ("watcher", "zoe", 0),
         ("post", "p", ("hall", "den"), 0))
DARK = errors.DarkError
MISSING = errors.Missing


def doing(*deed):
    return lambda: book_of(DEEDS).do(deed)


def too_long():
    posts = [(name, ("hall",) * size, 0) for name, size in zip("abc", (6, 5, 4))]
    rooms = ["hall", *"bcdefgh"]
    return together(Scene(House(rooms), posts, [(name, 0) for name in "abc"]), [("hall", "b")] * 3, 0)


# The refusal's word, the class above it, its field, its value, and what raises it.
CAUSES = (
    ("BadName", DARK, "name", "Hall", (lambda: House(("Hall",)), doing("room", "Hall"))),
    ("Taken", DARK, "name", "hall", (lambda: House(("hall", "hall")), doing("room", "hall"), doing("door", "hall", "den"))),
    ("Leans", DARK, "name", "p", (doing("strike", "hall"), doing("wall", "den", "hall"))),
    ("BadNumber", DARK, "asked", 7, (doing("rule", True, 7), doing("delay", "p", 7), doing("lamp", "zoe", 7))),
    ("NotAWalk", DARK, "at", 1, (lambda: need_round(HOUSE, ("stair", "hall", "attic")),)),
    ("Broken", DARK, "at", 1, (lambda: Book().all_of([("room", "hall"), ("room", "hall")]),)),
    ("TooGreat", DARK, "many", 1296, (lambda: least_delays(HOUSE, SIXES, (0,) * 4, ["hall"], ["attic"]),)),
    ("TooGreat", DARK, "many", 512 * 60, (too_long,)),
    ("BadText", DARK, "row", 0, (lambda: read_asking("odd"), lambda: read_page("odd\n"))),
    ("BadText", DARK, "row", 2, (lambda: read_page("room a\nroom b\nroom b\n"),)),
    ("Full", DARK, None, None, (lambda: House(tuple("abcdefghi")), lambda: together(Scene(HOUSE), [], 0))),
    ("Loop", DARK, None, None, (lambda: House(("a",), (("a", "a"),)), doing("sight", "hall", "hall"))),
    ("NoDoor", DARK, None, None, (doing("wall", "hall", "hall"),)),
    ("NoSight", DARK, None, None, (doing("curtain", "hall", "den"),)),
    ("BadRound", DARK, None, None, (doing("post", "q", (), 0), lambda: need_round(HOUSE, ()))),
    ("Bare", DARK, None, None, (lambda: Scene(HOUSE, SIXES[:1]), lambda: book_of(DEEDS[:2] + (
        ("post", "p", ("hall",), 0),)).scene())),
    ("BadDeed", DARK, None, None, (doing(), doing("odd"), doing("room"))),
    ("BadAsking", DARK, None, None, (lambda: Book().ask(()), doing("watch", "w", ("odd",)))),
    ("NoRoom", MISSING, "name", "shed", (doing("strike", "shed"), lambda: HOUSE.near("shed"))),
    ("NoPost", MISSING, "name", "q", (doing("call", "q"), lambda: Scene(HOUSE).where("q", 0))),
    ("NoWatcher", MISSING, "name", "q", (doing("leave", "q"), lambda: Scene(HOUSE).post_of("q", 0))),
    ("NoWatch", MISSING, "name", "q", (doing("unwatch", "q"), lambda: Book().seen_by("q"))),
    ("Nothing", IndexError, None, None, (lambda: Book().undo(), lambda: Book().redo())),
)
WORDS = {cause[0] for cause in CAUSES}


class Causes(unittest.TestCase):
    def test_twenty_one(self):
        self.assertEqual(len(WORDS), 21)
        named = {word for word in vars(errors) if word[0].isupper()}
        self.assertEqual(WORDS, named - {"DarkError", "Missing"})

    def test_each(self):
        for word, above, field, value, raisers in CAUSES:
            for raiser in raisers:
                with self.subTest(word=word):
                    with self.assertRaises(Exception) as caught:
                        raiser()
                    self.check(caught.exception, word, above, field, value)

    def check(self, refusal, word, above, field, value):
        kind = getattr(errors, word)
        self.assertIs(type(refusal), kind)
        self.assertEqual(kind.__bases__, (above,))
        self.assertEqual((refusal.word, refusal.__class__.__name__), (word, word))
        for other in WORDS - {word}:
            self.assertNotIsInstance(refusal, getattr(errors, other))
        self.assertEqual(isinstance(refusal, errors.DarkError), above is DARK)
        self.assertEqual(isinstance(refusal, errors.Missing), above is MISSING)
        self.assertEqual(isinstance(refusal, ValueError), above is DARK)
        self.assertEqual(isinstance(refusal, LookupError), above is not DARK)
        if field is not None:
            self.assertEqual((getattr(refusal, field), type(getattr(refusal, field))), (value, type(value)))


if __name__ == "__main__":
    unittest.main()
