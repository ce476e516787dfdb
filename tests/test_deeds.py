"""Each deed, done and refused, with all that the book has behind it."""

import itertools
import unittest

from darkthread import errors
from darkthread.book import Book
from tests.plain import Chance
from tests.plainbook import PlainBook, book_of, shape_due, shape_of
from tests.refusing import Refusing
from tests.somedeeds import BAD_NAMES, some_deed

START = (("room", "hall"), ("room", "stair"), ("room", "attic"), ("room", "den"), ("door", "hall", "stair"),
         ("door", "attic", "stair"), ("sight", "attic", "hall"), ("watcher", "zoe", 1), ("watcher", "abe", 0),
         ("post", "north", ("hall", "stair"), 1), ("post", "south", ("stair", "attic", "stair", "stair"), 3),
         ("rule", True, 2), ("watch", "one", ("where", "north", 3)), ("watch", "two", ("way", "den", "hall")))
STRANGERS = ("shed", "", "Hall", "hal", "halls", "hall ")


def names(letters, ahead=""):
    return [ahead + letter for letter in letters]


class Doing(Refusing):
    def setUp(self):
        self.book = book_of(START)
        self.plain = PlainBook(START)
        # Something stands there that can be done again.
        self.book.do(("room", "loft"))
        self.book.undo()
        self.plain.undone = [("room", "loft")]

    def check_same(self):
        self.assertEqual(shape_of(self.book), shape_due(self.plain))

    def check_done(self, *deeds):
        for deed in deeds:
            with self.subTest(deed=deed):
                self.assertIsNone(self.plain.refusal(deed))
                self.assertIsNone(self.book.do(deed))
                self.plain.do(deed)
                self.check_same()

    def check_bad(self, kind, value, *deeds):
        """Refused, and all is as it was, also what can be done again."""
        for deed in deeds:
            ahead = shape_of(self.book)
            self.assertEqual(self.plain.refusal(deed), (kind.__name__, value), deed)
            self.check_refused(kind, value, self.book.do, deed)
            self.assertEqual(shape_of(self.book), ahead)
            twin = self.book.twin()
            for undone in reversed(self.plain.undone):
                self.assertEqual(twin.redo(), undone)
            self.check_refused(errors.Nothing, None, twin.redo)


class Rooms(Doing):
    def test_room(self):
        self.check_done(("room", "a"), ("room", "loft"), ("room", "north"), ("room", "eightlet"))
        self.assertEqual(self.book.house().rooms(), ["hall", "stair", "attic", "den", "a", "loft", "north", "eightlet"])

    def test_room_refused(self):
        for name in BAD_NAMES:
            self.check_bad(errors.BadName, name, ("room", name))
        for name in ("hall", "stair", "attic", "den"):
            self.check_bad(errors.Taken, name, ("room", name))

    def test_strike(self):
        self.check_done(("door", "den", "hall"), ("door", "attic", "den"), ("sight", "den", "hall"),
                        ("sight", "stair", "den"), ("strike", "den"))
        self.assertEqual(self.book.house().doors(), [("hall", "stair"), ("stair", "attic")])
        self.assertEqual(self.book.house().sights(), [("attic", "hall")])
        self.check_done(("room", "den"), ("call", "north"), ("strike", "hall"), ("call", "south"), ("strike", "stair"),
                        ("strike", "den"), ("strike", "attic"), ("room", "attic"), ("room", "hall"))
        self.assertEqual((self.book.house().rooms(), self.book.house().doors()), (["attic", "hall"], []))

    def test_strike_refused(self):
        for name in STRANGERS + ("north", "zoe"):
            self.check_bad(errors.NoRoom, name, ("strike", name))
        self.check_bad(errors.Leans, "north", ("strike", "hall"), ("strike", "stair"))
        self.check_bad(errors.Leans, "south", ("strike", "attic"))
        self.check_done(("call", "north"))
        self.check_bad(errors.Leans, "south", ("strike", "stair"))
        self.check_done(("post", "north", ("stair",), 0))
        self.check_bad(errors.Leans, "south", ("strike", "stair"))


class Doors(Doing):
    def test_door(self):
        self.check_done(("door", "den", "hall"), ("door", "hall", "attic"), ("door", "den", "attic"))
        self.assertEqual(self.book.house().doors(),
                         [("hall", "stair"), ("hall", "attic"), ("hall", "den"), ("stair", "attic"), ("attic", "den")])

    def test_door_refused(self):
        for name in STRANGERS:
            for deed in ("door", "wall", "sight", "curtain"):
                self.check_bad(errors.NoRoom, name, (deed, name, "hall"), (deed, "hall", name), (deed, name, "barn"),
                               (deed, name, name))
        self.check_bad(errors.Loop, None, *[("door", room, room) for room in ("hall", "den")])
        for a, b in (("hall", "stair"), ("stair", "attic")):
            self.check_bad(errors.Taken, a, ("door", a, b))
            self.check_bad(errors.Taken, b, ("door", b, a))

    def test_wall(self):
        self.check_done(("door", "den", "hall"), ("wall", "den", "hall"), ("door", "hall", "den"), ("wall", "den", "hall"),
                        ("call", "north"), ("wall", "stair", "hall"), ("call", "south"), ("wall", "stair", "attic"),
                        ("door", "hall", "stair"))
        self.assertEqual(self.book.house().doors(), [("hall", "stair")])

    def test_wall_refused(self):
        self.check_bad(errors.NoDoor, None, ("wall", "hall", "den"), ("wall", "attic", "hall"), ("wall", "hall", "hall"))
        self.check_bad(errors.Leans, "north", ("wall", "hall", "stair"), ("wall", "stair", "hall"))
        self.check_bad(errors.Leans, "south", ("wall", "attic", "stair"), ("wall", "stair", "attic"))

    def test_wall_that_only_the_turn_to_the_first_room_needs(self):
        self.check_done(("door", "hall", "attic"), ("post", "ring", ("hall", "stair", "attic"), 0), ("call", "north"),
                        ("call", "south"))
        for a, b in itertools.permutations(("hall", "stair", "attic"), 2):
            self.check_bad(errors.Leans, "ring", ("wall", a, b))
        self.check_done(("call", "ring"), ("post", "stay", ("hall", "hall"), 0), ("post", "still", ("attic",), 0),
                        ("wall", "attic", "hall"))

    def test_the_first_post_that_goes_through_it(self):
        self.check_done(("post", "third", ("hall", "stair"), 0))
        self.check_bad(errors.Leans, "north", ("wall", "hall", "stair"))
        self.check_done(("call", "north"))
        self.check_bad(errors.Leans, "third", ("wall", "hall", "stair"))

    def test_sight_and_curtain(self):
        self.check_done(("sight", "hall", "attic"), ("curtain", "attic", "hall"), ("sight", "den", "hall"),
                        ("sight", "attic", "hall"), ("curtain", "hall", "attic"), ("curtain", "den", "hall"))
        self.assertEqual(self.book.house().sights(), [("attic", "hall")])

    def test_sight_and_curtain_refused(self):
        self.check_bad(errors.Loop, None, ("sight", "hall", "hall"), ("sight", "den", "den"))
        self.check_bad(errors.Taken, "attic", ("sight", "attic", "hall"))
        self.check_bad(errors.NoSight, None, ("curtain", "hall", "attic"), ("curtain", "hall", "den"),
                       ("curtain", "den", "den"), ("curtain", "hall", "stair"))


class Posts(Doing):
    def test_post(self):
        self.check_done(("post", "a", ("den",), 0), ("post", "hall", ("hall", "stair", "attic", "stair"), 3),
                        ("post", "zoe", ("hall",) * 6, 5))
        self.assertEqual([name for name, rooms, delay in self.book.posts()], ["north", "south", "a", "hall", "zoe"])

    def test_post_refused(self):
        for name in BAD_NAMES:
            self.check_bad(errors.BadName, name, ("post", name, ("hall",), 0), ("post", name, (), -1))
        self.check_bad(errors.Taken, "north", ("post", "north", ("hall",), 0), ("post", "north", (), 9))
        self.check_bad(errors.BadRound, None, ("post", "p", (), 0), ("post", "p", ("hall",) * 7, 0),
                       ("post", "p", ("shed",) * 7, 9))
        self.check_bad(errors.NoRoom, "shed", ("post", "p", ("shed",), 0), ("post", "p", ("hall", "den", "shed"), 9),
                       ("post", "p", ("shed", "barn"), 0))
        self.check_bad(errors.NotAWalk, 0, ("post", "p", ("hall", "den"), 0), ("post", "p", ("hall", "attic"), 9))
        self.check_bad(errors.NotAWalk, 2, ("post", "p", ("hall", "stair", "attic"), 0))
        for size in (1, 2, 3):
            for delay in (-1, size, size + 1, 10 ** 9, -(10 ** 30)):
                self.check_bad(errors.BadNumber, delay, ("post", "p", ("hall", "stair", "stair")[:size], delay))

    def test_call(self):
        self.check_done(("call", "north"), ("post", "north", ("den",), 0), ("call", "south"), ("call", "north"))
        for name in STRANGERS + ("north", "south", "hall"):
            self.check_bad(errors.NoPost, name, ("call", name))

    def test_delay(self):
        self.check_done(("delay", "north", 0), ("delay", "south", 0), ("delay", "south", 2), ("delay", "north", 1),
                        ("delay", "north", 1))
        self.assertEqual(self.book.posts(), [("north", ("hall", "stair"), 1),
                                             ("south", ("stair", "attic", "stair", "stair"), 2)])

    def test_delay_refused(self):
        for name in STRANGERS + ("zoe",):
            self.check_bad(errors.NoPost, name, ("delay", name, 0), ("delay", name, -1), ("delay", name, 10 ** 10))
        for number in (-1, 2, 3, 10 ** 9):
            self.check_bad(errors.BadNumber, number, ("delay", "north", number))
        self.check_bad(errors.BadNumber, 4, ("delay", "south", 4))


class Watchers(Doing):
    def test_watcher(self):
        self.check_done(("watcher", "kim", 0), ("watcher", "north", 1), ("leave", "zoe"), ("watcher", "zoe", 0),
                        ("lamp", "abe", 1), ("lamp", "abe", 1), ("lamp", "zoe", 1), ("leave", "abe"), ("leave", "kim"),
                        ("leave", "north"), ("leave", "zoe"))
        self.check_refused(errors.Bare, None, self.book.scene)

    def test_watcher_refused(self):
        for name in BAD_NAMES:
            self.check_bad(errors.BadName, name, ("watcher", name, 0), ("watcher", name, 7))
        self.check_bad(errors.Taken, "zoe", ("watcher", "zoe", 0), ("watcher", "zoe", 7))
        for name in STRANGERS + ("north",):
            self.check_bad(errors.NoWatcher, name, ("leave", name), ("lamp", name, 0), ("lamp", name, 7))
        for reach in (2, -1, 10 ** 9, -(10 ** 9)):
            self.check_bad(errors.BadNumber, reach, ("watcher", "kim", reach), ("lamp", "zoe", reach))

    def test_rule(self):
        for meet in (True, False):
            self.check_done(*[("rule", meet, relief) for relief in range(5)])
            for relief in (-1, 5, 10 ** 9, -(10 ** 9)):
                self.check_bad(errors.BadNumber, relief, ("rule", meet, relief))
        self.assertEqual(self.book.rules(), (False, 4))
        self.assertEqual(Book().rules(), (False, 0))

    def test_watch(self):
        self.check_done(("watch", "three", ("wheel",)), ("watch", "hall", ("where", "nobody", 10 ** 12)),
                        ("unwatch", "one"), ("watch", "one", ("lit", 3)), ("unwatch", "hall"), ("unwatch", "three"),
                        ("unwatch", "one"), ("unwatch", "two"))

    def test_watch_refused(self):
        for name in BAD_NAMES:
            self.check_bad(errors.BadName, name, ("watch", name, ("wheel",)), ("watch", name, ()))
        self.check_bad(errors.Taken, "one", ("watch", "one", ("wheel",)), ("watch", "one", ()))
        self.check_bad(errors.BadAsking, None, ("watch", "w", ()), ("watch", "w", ("wheel", 3)), ("watch", "w", ("odd",)),
                       ("watch", "w", ("way", "hall")), ("watch", "w", ("way", "hall", "den", 3, 3)),
                       ("watch", "w", ("where", "north")), ("watch", "w", ("lit",)), ("watch", "w", ("linger", "hall")),
                       ("watch", "w", ("meets", "north", "south", 3)), ("watch", "w", ("who",)))
        for name in STRANGERS + ("north", "zoe", "three"):
            self.check_bad(errors.NoWatch, name, ("unwatch", name))


class Filled(Doing):
    def setUp(self):
        super().setUp()
        fill = [("room", name) for name in names("abcd")] + [("post", name, ("den",), 0) for name in names("pqr")]
        fill += [("watcher", name, 0) for name in names("stuv")] + [("watch", name, ("wheel",)) for name in ("w", "x")]
        for deed in fill + [("rule", False, 3)]:
            self.book.do(deed)
            self.plain.do(deed)
        self.book.undo()
        self.plain.undo()

    def test_full_behind_the_name_and_ahead_of_all_else(self):
        self.check_bad(errors.Full, None, ("room", "e"), ("post", "e", ("den",), 0), ("post", "e", (), 9),
                       ("post", "e", ("shed",), 9), ("watcher", "e", 0), ("watcher", "e", 9), ("watch", "e", ("wheel",)),
                       ("watch", "e", ()))
        for name in BAD_NAMES:
            self.check_bad(errors.BadName, name, ("room", name), ("post", name, ("den",), 0), ("watcher", name, 9),
                           ("watch", name, ()))
        for name, deeds in (("a", (("room", "a"),)), ("r", (("post", "r", (), 0),)), ("v", (("watcher", "v", 3),)),
                            ("x", (("watch", "x", ()),))):
            self.check_bad(errors.Taken, name, *deeds)

    def test_one_goes_one_comes(self):
        self.check_done(("strike", "b"), ("room", "e"), ("call", "q"), ("post", "e", ("den",), 0), ("leave", "t"),
                        ("watcher", "e", 1), ("unwatch", "w"), ("watch", "e", ("lit", 0)))
        self.check_bad(errors.Full, None, ("room", "f"), ("post", "f", ("den",), 0), ("watcher", "f", 0),
                       ("watch", "f", ("wheel",)))
        self.assertEqual((len(self.book.house()), len(self.book.posts()), len(self.book.watchers()),
                          len(self.book.watches())), (8, 5, 6, 4))


class NoDeeds(Doing):
    def test_other_words_and_numbers_of_things(self):
        sizes = {deed[0]: len(deed) for deed in START}
        sizes.update({"strike": 2, "wall": 3, "curtain": 3, "call": 2, "delay": 3, "leave": 2, "lamp": 3, "unwatch": 2})
        self.assertEqual(len(sizes), 15)
        for word, size in sizes.items():
            for other in range(1, 7):
                if other != size:
                    self.check_bad(errors.BadDeed, None, (word, *("hall",) * (other - 1)), (word, *(3,) * (other - 1)))
        for word in ("", "Room", "rooms", "room ", "undo", "redo", "ask", "notes", "where", "name"):
            for size in range(4):
                self.check_bad(errors.BadDeed, None, (word, *("hall",) * size))
        self.check_bad(errors.BadDeed, None, ())


class Methods(Doing):
    def test_post_watcher_rule(self):
        self.assertIsNone(self.book.post("a", ["hall", "stair"]))
        self.assertIsNone(self.book.post("b", ("hall", "stair"), delay=1))
        self.assertIsNone(self.book.post(rooms=["den"], name="c", delay=0))
        self.assertIsNone(self.book.watcher("kim"))
        self.assertIsNone(self.book.watcher("liv", reach=1))
        self.assertIsNone(self.book.watcher(reach=0, name="bo"))
        self.assertIsNone(self.book.rule(meet=True))
        self.assertIsNone(self.book.rule(relief=3))
        self.assertIsNone(self.book.rule(relief=2, meet=True))
        self.assertIsNone(self.book.rule())
        self.assertEqual(self.book.deeds()[len(START):],
                         [("post", "a", ("hall", "stair"), 0), ("post", "b", ("hall", "stair"), 1), ("post", "c", ("den",), 0),
                          ("watcher", "kim", 0), ("watcher", "liv", 1), ("watcher", "bo", 0), ("rule", True, 0),
                          ("rule", False, 3), ("rule", True, 2), ("rule", False, 0)])

    def test_refused(self):
        ahead = shape_of(self.book)
        self.check_refused(errors.BadName, "A", self.book.post, "A", [])
        self.check_refused(errors.Taken, "north", self.book.post, "north", ["shed"], delay=9)
        self.check_refused(errors.BadRound, None, self.book.post, "p", [])
        self.check_refused(errors.NotAWalk, 0, self.book.post, "p", ["hall", "den"])
        self.check_refused(errors.BadNumber, 1, self.book.post, "p", ["hall"], delay=1)
        self.check_refused(errors.BadNumber, 2, self.book.watcher, "kim", reach=2)
        self.check_refused(errors.Taken, "zoe", self.book.watcher, "zoe")
        self.check_refused(errors.BadNumber, 5, self.book.rule, relief=5)
        self.assertEqual(shape_of(self.book), ahead)

    def test_handed_rooms_stay(self):
        rooms = ["hall", "stair"]
        self.book.post("a", rooms)
        rooms.append("den")
        self.assertEqual(self.book.posts()[-1], ("a", ("hall", "stair"), 0))
        self.assertEqual(self.book.deeds()[-1], ("post", "a", ("hall", "stair"), 0))


class ByChance(Refusing):
    def test_held_against_a_plain_reckoning(self):
        words = {}
        for seed in range(12):
            chance, book, plain = Chance(seed), Book(), PlainBook()
            for turn in range(110):
                deed = some_deed(chance, book)
                due = plain.refusal(deed)
                if due is None:
                    book.do(deed)
                    plain.do(deed)
                else:
                    self.check_refused(getattr(errors, due[0]), due[1], book.do, deed)
                word = (deed[0], due and due[0])
                words[word] = words.get(word, 0) + 1
                if turn % 10 == 0:
                    self.assertEqual(shape_of(book), shape_due(plain))
            self.assertEqual(shape_of(book), shape_due(plain))
        self.assertGreater(len(words), 40)
        self.assertTrue(all((word, None) in words for word in ("room", "strike", "door", "wall", "sight", "curtain",
                                                               "post", "call", "delay", "watcher", "leave", "lamp",
                                                               "rule", "watch", "unwatch")))


if __name__ == "__main__":
    unittest.main()
