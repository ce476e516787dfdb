"""Books: when two are equal, their length, truth and texts; and what can be asked of what stands."""

import unittest

from darkthread import errors
from darkthread.book import Book
from darkthread.house import House
from darkthread.scene import Scene
from tests.comparing import Comparing
from tests.plain import Chance
from tests.plainbook import PlainBook, book_of, scene_of, shape_of, told_of
from tests.refusing import BEYOND, FAR, Refusing
from tests.somedeeds import some_asking, some_deed

DEEDS = (("room", "hall"), ("room", "stair"), ("room", "attic"), ("door", "hall", "stair"), ("door", "stair", "attic"),
         ("sight", "hall", "attic"), ("sight", "attic", "hall"), ("watcher", "zoe", 1), ("watcher", "abe", 0),
         ("post", "north", ("hall", "stair"), 1), ("post", "south", ("stair",), 0), ("rule", True, 2),
         ("watch", "one", ("wheel",)), ("watch", "two", ("lit", 3)))


class Equal(Comparing):
    def check_books(self, deeds, others, equal):
        self.check(book_of(deeds), book_of(others), equal)

    def test_the_same(self):
        self.check(Book(), Book(), True)
        self.check_books(DEEDS, DEEDS, True)
        book = book_of(DEEDS)
        self.check(book, book, True)

    def test_the_same_by_other_deeds(self):
        self.check_books(DEEDS, DEEDS + (("room", "den"), ("strike", "den")), True)
        self.check_books(DEEDS, DEEDS + (("rule", False, 0), ("rule", True, 2), ("lamp", "abe", 0)), True)
        # Doors and sights in another order, and doors the other way about.
        turned = DEEDS[:3] + (("door", "attic", "stair"), ("door", "stair", "hall"), DEEDS[6], DEEDS[5]) + DEEDS[7:]
        self.check_books(DEEDS, turned, True)
        self.check_books(DEEDS, DEEDS + (("curtain", "hall", "attic"), ("sight", "hall", "attic")), True)
        back = book_of(DEEDS + (("room", "den"),))
        back.undo()
        self.check(book_of(DEEDS), back, True)
        self.check(back.twin(), back, True)

    def test_one_difference_each(self):
        for deed in (("room", "den"), ("door", "hall", "attic"), ("sight", "stair", "hall"),
                     ("curtain", "hall", "attic"), ("post", "west", ("hall",), 0), ("call", "south"),
                     ("delay", "north", 0), ("watcher", "kim", 0), ("leave", "abe"), ("lamp", "abe", 1),
                     ("lamp", "zoe", 0), ("rule", False, 2), ("rule", True, 1), ("watch", "three", ("wheel",)),
                     ("unwatch", "one")):
            self.check_books(DEEDS, DEEDS + (deed,), False)
            self.check_books((), DEEDS[:1], False)

    def test_orders(self):
        for at, other in ((0, 1), (1, 2), (7, 8), (9, 10), (12, 13)):
            turned = list(DEEDS)
            turned[at], turned[other] = turned[other], turned[at]
            self.check_books(DEEDS, turned, False)

    def test_names_rounds_and_askings(self):
        def changed(at, deed):
            return DEEDS[:at] + (deed,) + DEEDS[at + 1:]

        for at, deed in ((9, ("post", "nort", ("hall", "stair"), 1)), (9, ("post", "north", ("stair", "hall"), 1)),
                         (9, ("post", "north", ("hall", "hall"), 1)), (10, ("post", "south", ("stair", "stair"), 0)),
                         (7, ("watcher", "zo", 1)), (12, ("watch", "on", ("wheel",))), (12, ("watch", "one", ("lit", 3))),
                         (13, ("watch", "two", ("lit", 4))), (6, ("sight", "attic", "stair"))):
            self.check_books(DEEDS, changed(at, deed), False)

    def test_beside_other_things(self):
        for other in (None, 0, "", "book", [], (), {}, DEEDS, House(), Scene(House()), object(), [Book()]):
            self.check(Book(), other, False)
            self.check(book_of(DEEDS), other, False)
        book = book_of(DEEDS)
        self.check(book, book.house(), False)
        self.check(book, book.scene(), False)
        self.check(book, str(book), False)


class Texts(unittest.TestCase):
    def test_len_and_truth(self):
        book = Book()
        self.assertEqual((len(book), bool(book)), (0, False))
        for many, deed in enumerate(DEEDS):
            book.do(deed)
            self.assertEqual((len(book), bool(book)), (many + 1, True))
        for many in range(len(DEEDS)):
            book.undo()
        self.assertEqual((len(book), bool(book)), (0, False))

    def test_repr(self):
        self.assertEqual(repr(Book()), "Book(0 rooms, 0 posts, 0 deeds)")
        self.assertEqual(repr(book_of(DEEDS)), "Book(3 rooms, 2 posts, 14 deeds)")
        self.assertEqual(repr(book_of(DEEDS[:10] + (("room", "den"), ("strike", "den")))),
                         "Book(3 rooms, 1 posts, 12 deeds)")

    def test_str(self):
        self.assertEqual(str(Book()), "")
        self.assertEqual(str(book_of(DEEDS)),
                         "room hall\nroom stair\nroom attic\ndoor hall stair\ndoor stair attic\nsight hall attic\n"
                         "sight attic hall\nwatcher zoe 1\nwatcher abe 0\npost north hall,stair 1\npost south stair 0\n"
                         "rule yes 2\nwatch one wheel\nwatch two lit 3\n")
        book = book_of(DEEDS)
        book.undo()
        self.assertTrue(str(book).endswith("watch one wheel\n"))


class Asking(Refusing):
    def test_behind_each_deed_and_taking_back(self):
        found = set()
        for seed in range(8):
            chance, book = Chance(seed), book_of(DEEDS)
            for turn in range(40):
                deed = some_deed(chance, book)
                try:
                    book.do(deed)
                except (errors.DarkError, errors.Missing):
                    if chance.below(3) == 0:
                        book.undo()
                for ask in range(4):
                    found.add(self.check_asked(book, some_asking(chance)))
        self.assertTrue({None, "Bare", "NoPost", "NoRoom", "BadNumber", "BadAsking"} <= found, found)

    def check_asked(self, book, asking):
        """What is told, or refused, as it is due; the refusal's word."""
        has = PlainBook(book.deeds()).has()
        ahead = shape_of(book)
        kind, value = self.due(has, asking)
        if kind is not None:
            self.check_refused(kind, value, book.ask, asking)
        else:
            told = book.ask(asking)
            self.assertEqual((told, type(told)), (value, type(value)))
            self.assertEqual(book.ask(asking=asking), told)
        self.assertEqual(shape_of(book), ahead)
        return kind and kind.__name__

    def due(self, has, asking):
        if asking[0] == "odd":
            return errors.BadAsking, None
        try:
            return None, told_of(scene_of(has), asking)
        except (errors.DarkError, errors.Missing) as refusal:
            field = {"NoPost": "name", "NoRoom": "name", "BadNumber": "asked"}.get(refusal.word)
            return type(refusal), field and getattr(refusal, field)

    def test_bad_asking_ahead_of_bare(self):
        book = book_of(DEEDS + (("leave", "zoe"),))
        for asking in ((), ("odd",), ("wheel", 3), ("way", "hall"), ("lit",)):
            self.check_refused(errors.BadAsking, None, book.ask, asking)
        for asking in (("wheel",), ("way", "shed", "barn"), ("lit", FAR + 1), ("where", "nobody", 0)):
            self.check_refused(errors.Bare, None, book.ask, asking)
        self.check_refused(errors.Bare, None, book.scene)
        book.undo()
        self.assertEqual(book.ask(("wheel",)), 4)

    def test_as_the_functions_refuse(self):
        book = book_of(DEEDS)
        self.check_refused(errors.NoRoom, "shed", book.ask, ("way", "shed", "barn", FAR + 1))
        self.check_refused(errors.NoRoom, "barn", book.ask, ("way", "hall", "barn"))
        self.check_refused(errors.NoPost, "zoe", book.ask, ("who", "zoe", FAR + 1))
        for beat in BEYOND:
            self.check_refused(errors.BadNumber, beat, book.ask, ("linger", "hall", beat))

    def test_scene(self):
        book = book_of(DEEDS)
        for deed in DEEDS[::-1]:
            if len(book.watchers()) >= len(book.posts()):
                has = PlainBook(book.deeds()).has()
                self.assertEqual(book.scene(), scene_of(has))
            else:
                self.check_refused(errors.Bare, None, book.scene)
            self.assertEqual(book.undo(), deed)
        self.assertEqual(book.scene(), Scene(House()))

    def test_what_was_told_stays(self):
        book = book_of(DEEDS)
        house, scene, posts, deeds, notes, watches = (book.house(), book.scene(), book.posts(), book.deeds(), book.notes(),
                                                      book.watches())
        kept = House(house.rooms(), house.doors(), house.sights()), list(posts), list(deeds), list(notes), list(watches)
        wheel = scene.wheel()
        for deed in (("room", "den"), ("door", "hall", "attic"), ("post", "west", ("attic",), 0), ("delay", "north", 0),
                     ("unwatch", "one"), ("call", "south"), ("rule", False, 0), ("leave", "zoe")):
            book.do(deed)
        while len(book) > 0:
            book.undo()
        self.assertEqual((house, posts, deeds, notes, watches), kept)
        self.assertEqual((scene.wheel(), scene.house()), (wheel, kept[0]))

    def test_told_lists_changed(self):
        book = book_of(DEEDS)
        ahead = shape_of(book)
        house = book.house()
        for rows in (book.posts(), book.watchers(), book.watches(), book.deeds(), book.notes(), house.rooms(),
                     house.doors(), house.sights()):
            rows.clear()
        self.assertEqual(shape_of(book), ahead)
        self.assertEqual(book.scene(), book_of(DEEDS).scene())
        self.assertEqual([type(rows) for rows in (book.posts(), book.watchers(), book.watches(), book.deeds(),
                                                  book.notes())], [list] * 5)
        self.assertEqual((type(book.posts()[0]), type(book.posts()[0][1]), type(book.watchers()[0]),
                          type(book.watches()[0]), type(book.rules())), (tuple,) * 5)


if __name__ == "__main__":
    unittest.main()
