"""Watches, what they see, and the notes of it."""

import unittest

from darkthread import errors
from darkthread.book import Book
from tests.plain import Chance
from tests.plainbook import PlainBook, book_of, come_to, shape_due, shape_of
from tests.refusing import Refusing
from tests.somedeeds import some_deed

HOUSE = (("room", "hall"), ("room", "stair"), ("room", "attic"), ("door", "hall", "stair"), ("door", "stair", "attic"))


class Notes(Refusing):
    def check_plain(self, book):
        self.assertEqual(shape_of(book), shape_due(PlainBook(book.deeds())))

    def test_by_hand(self):
        book = book_of(HOUSE + (("watch", "w", ("where", "north", 0)),))
        self.assertEqual(book.seen_by("w"), "no NoPost")
        self.assertEqual(book.notes(), [])
        book.do(("post", "north", ("hall", "stair"), 0))
        self.assertEqual(book.seen_by("w"), "no Bare")
        book.do(("watcher", "zoe", 0))
        self.assertEqual(book.seen_by("w"), "hall")
        book.do(("delay", "north", 1))
        book.do(("rule", True, 2))
        notes = [(7, "w", "no NoPost", "no Bare"), (8, "w", "no Bare", "hall"), (9, "w", "hall", "stair")]
        self.assertEqual(book.notes(), notes)
        self.assertTrue(all(type(note) is tuple for note in book.notes()))
        self.check_plain(book)
        # Notes go and come with their deeds.
        for left in (3, 2, 1, 0):
            book.undo()
            self.assertEqual(book.notes(), notes[:left])
            self.assertEqual(book.seen_by("w"), come_to(PlainBook(book.deeds()).has(), ("where", "north", 0)))
        for come in (1, 2, 3, 3):
            book.redo()
            self.assertEqual(book.notes(), notes[:come])

    def test_a_watch_that_comes_or_goes_gives_no_note(self):
        book = book_of(HOUSE)
        book.do(("watch", "w", ("lit", 0)))
        book.do(("unwatch", "w"))
        book.do(("watcher", "zoe", 0))
        book.do(("post", "north", ("hall",), 0))
        book.do(("watch", "w", ("lit", 0)))
        self.assertEqual(book.notes(), [])
        self.assertEqual(book.seen_by("w"), ("hall",))
        # The same name for another asking begins anew.
        book.do(("unwatch", "w"))
        book.do(("watch", "w", ("wheel",)))
        self.assertEqual(book.notes(), [])
        self.assertEqual(book.seen_by("w"), 1)

    def test_notes_of_a_watch_that_is_gone_stay(self):
        book = book_of(HOUSE + (("watch", "w", ("lit", 0)), ("watcher", "zoe", 1), ("post", "north", ("hall",), 0),
                                ("unwatch", "w")))
        self.assertEqual(book.notes(), [(8, "w", (), ("hall",))])
        self.check_refused(errors.NoWatch, "w", book.seen_by, "w")

    def test_several_by_one_deed_in_the_order_of_the_watches(self):
        watches = (("watch", "zz", ("lit", 0)), ("watch", "mm", ("way", "hall", "attic")), ("watch", "aa", ("wheel",)),
                   ("watch", "kk", ("linger", "hall", 0)))
        book = book_of(HOUSE + (("watcher", "zoe", 0),) + watches)
        book.do(("post", "north", ("stair", "stair"), 0))
        self.assertEqual(book.notes(), [(11, "zz", (), ("stair",)), (11, "mm", 2, None), (11, "aa", 1, 2)])
        book.do(("leave", "zoe"))
        self.assertEqual(book.notes()[3:], [(12, "zz", ("stair",), "no Bare"), (12, "mm", None, "no Bare"),
                                            (12, "aa", 2, "no Bare"), (12, "kk", "ever", "no Bare")])
        book.do(("unwatch", "mm"))
        book.do(("watch", "mm", ("way", "hall", "attic")))
        book.do(("watcher", "zoe", 1))
        self.assertEqual([note[1] for note in book.notes()[7:]], ["zz", "aa", "kk", "mm"])
        self.check_plain(book)

    def test_all_words_also_where_they_are_refused(self):
        for asking in (("where", "north", 1), ("who", "north", 1), ("lit", 1), ("wheel",), ("meets", "north", "south"),
                       ("way", "hall", "attic"), ("way", "hall", "attic", 1), ("linger", "hall", 1),
                       ("where", "north", 10 ** 9 + 1), ("lit", -(10 ** 12)), ("way", "shed", "attic"),
                       ("linger", "Hall", 0), ("meets", "south", "south")):
            book = book_of((("watch", "w", asking),))
            for deed in HOUSE + (("post", "north", ("hall", "stair"), 0), ("watcher", "zoe", 0), ("watcher", "abe", 1),
                                 ("post", "south", ("stair", "attic", "stair"), 2), ("rule", True, 1),
                                 ("sight", "hall", "attic"), ("lamp", "zoe", 1), ("delay", "north", 1), ("call", "north"),
                                 ("wall", "hall", "stair"), ("strike", "hall"), ("leave", "abe"), ("leave", "zoe")):
                book.do(deed)
                self.assertEqual(book.seen_by("w"), come_to(PlainBook(book.deeds()).has(), asking))
            self.check_plain(book)

    def test_with_all_of_and_broken(self):
        book = book_of(HOUSE + (("watch", "w", ("lit", 0)),))
        row = [("watcher", "zoe", 0), ("post", "north", ("hall",), 0), ("call", "north")]
        with self.assertRaises(errors.Broken):
            book.all_of(row + [("call", "north")])
        self.assertEqual((book.notes(), book.seen_by("w")), ([], ()))
        book.all_of(row)
        self.assertEqual(book.notes(), [(8, "w", (), ("hall",)), (9, "w", ("hall",), ())])
        book.undo()
        self.assertEqual((book.notes(), book.seen_by("w")), ([(8, "w", (), ("hall",))], ("hall",)))

    def test_a_refused_deed_gives_none(self):
        book = book_of(HOUSE + (("watch", "w", ("lit", 0)), ("watcher", "zoe", 0)))
        for deed in (("post", "north", ("hall",), 9), ("post", "north", (), 0), ("call", "north"), ()):
            with self.assertRaises((errors.DarkError, errors.Missing)):
                book.do(deed)
            self.assertEqual(book.notes(), [])

    def test_a_twin_too(self):
        book = book_of(HOUSE + (("watch", "w", ("lit", 0)), ("watcher", "zoe", 0), ("post", "north", ("hall",), 0)))
        twin = book.twin()
        twin.do(("call", "north"))
        book.do(("unwatch", "w"))
        self.assertEqual((twin.notes(), twin.seen_by("w")),
                         ([(8, "w", (), ("hall",)), (9, "w", ("hall",), ())], ()))
        self.check_refused(errors.NoWatch, "w", book.seen_by, "w")
        self.assertEqual(book.notes(), [(8, "w", (), ("hall",))])

    def test_by_chance(self):
        many = 0
        for seed in range(10):
            chance, book = Chance(seed), book_of(HOUSE + (("watch", "one", ("way", "hall", "attic")),
                                                          ("watch", "two", ("wheel",)), ("watch", "four", ("lit", 2)),
                                                          ("watcher", "abe", 1), ("post", "mid", ("stair",), 0)))
            for turn in range(60):
                try:
                    book.do(some_deed(chance, book))
                except (errors.DarkError, errors.Missing):
                    pass
            self.check_plain(book)
            many += len(book.notes())
        self.assertGreater(many, 50)


class SeenBy(Refusing):
    def test_no_watch(self):
        book = book_of(HOUSE + (("watch", "w", ("wheel",)), ("watch", "v", ("wheel",))))
        for name in ("", "W", "hall", "ww", "w "):
            self.check_refused(errors.NoWatch, name, book.seen_by, name)
            self.check_refused(errors.NoWatch, name, Book().seen_by, name)
        self.assertEqual(book.seen_by(name="w"), 1)
        book.do(("unwatch", "w"))
        self.check_refused(errors.NoWatch, "w", book.seen_by, "w")
        self.assertEqual(book.seen_by("v"), 1)
        book.undo()
        self.assertEqual(book.seen_by("w"), 1)
        book.undo()
        self.check_refused(errors.NoWatch, "v", book.seen_by, "v")


if __name__ == "__main__":
    unittest.main()
