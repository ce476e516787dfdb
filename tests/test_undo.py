"""Deeds taken back and done again, rows of deeds, and twins, held against a plain reckoning."""

import unittest

from darkthread import errors
from darkthread.book import Book
from tests.plain import Chance
from tests.plainbook import PlainBook, book_of, refusal_of, shape_due, shape_of
from tests.refusing import Refusing
from tests.somedeeds import LIVELY, some_asking, some_deed

DEEDS = (("room", "hall"), ("room", "den"), ("door", "hall", "den"), ("watcher", "zoe", 0),
         ("watch", "one", ("where", "north", 0)), ("post", "north", ("hall", "den"), 1), ("delay", "north", 0),
         ("rule", True, 3), ("unwatch", "one"), ("call", "north"), ("strike", "den"))
BAD = ("room", "hall", "den"), ("room", "Hall"), ("call", "nobody"), ("strike", "shed"), ()


class Turning(Refusing):
    """One book and its plain reckoning, gone on with by the same turns."""

    def start(self, seed, deeds=()):
        self.chance, self.book, self.plain = Chance(seed), book_of(deeds), PlainBook(deeds)

    def turn_do(self):
        deed = some_deed(self.chance, self.book)
        due = self.plain.refusal(deed)
        if due is None:
            self.assertIsNone(self.book.do(deed))
            self.plain.do(deed)
        else:
            self.check_refused(getattr(errors, due[0]), due[1], self.book.do, deed)

    def turn_undo(self):
        if self.plain.deeds:
            self.assertEqual(self.book.undo(), self.plain.undo())
        else:
            self.check_refused(errors.Nothing, None, self.book.undo)

    def turn_redo(self):
        if self.plain.undone:
            self.assertEqual(self.book.redo(), self.plain.redo())
        else:
            self.check_refused(errors.Nothing, None, self.book.redo)

    def turn_all(self):
        row, trial, at = [], PlainBook(self.plain.deeds), None
        for place in range(self.chance.below(4)):
            row.append(some_deed(self.chance, self.book))
            if at is None and trial.refusal(row[-1]) is not None:
                at = place
            elif at is None:
                trial.do(row[-1])
        if at is not None:
            self.check_refused(errors.Broken, at, self.book.all_of, row)
        else:
            self.assertIsNone(self.book.all_of(tuple(row)))
            for deed in row:
                self.plain.do(deed)

    def turn_ask(self):
        try:
            self.book.ask(some_asking(self.chance))
        except (errors.DarkError, errors.Missing):
            pass
        len(self.book.notes() + self.book.deeds() + self.book.watches())

    def turn_twin(self):
        """Go on with a twin; what the book itself does then is another matter."""
        twin = self.book.twin()
        if self.book.deeds():
            self.book.undo()
        self.book.do(("rule", True, 1))
        self.book = twin

    def go_on(self, turns):
        kinds = (self.turn_do,) * 8 + (self.turn_undo,) * 3 + (self.turn_redo,) * 2 + (self.turn_all, self.turn_ask,
                                                                                      self.turn_twin)
        for turn in range(turns):
            self.chance.one_of(kinds)()

    def check_same(self):
        self.assertEqual(shape_of(self.book), shape_due(self.plain))

    def check_all_back_and_again(self):
        """All deeds back, one by one, then all again, with what stands at each of them."""
        shapes = []
        while self.plain.deeds:
            shapes.append(shape_of(self.book))
            self.assertEqual(self.book.undo(), self.plain.undo())
            self.check_same()
        self.check_refused(errors.Nothing, None, self.book.undo)
        self.assertEqual(shape_of(self.book), shape_of(Book()))
        for shape in reversed(shapes):
            self.assertEqual(self.book.redo(), self.plain.redo())
            self.assertEqual(shape_of(self.book), shape)
        while self.plain.undone:
            self.assertEqual(self.book.redo(), self.plain.redo())
            self.check_same()
        self.check_refused(errors.Nothing, None, self.book.redo)


class Undo(Turning):
    def test_back_and_again(self):
        self.start(0, DEEDS)
        self.check_all_back_and_again()
        self.assertEqual(self.book.deeds(), list(DEEDS))

    def test_nothing_at_both_ends(self):
        book = Book()
        self.check_refused(errors.Nothing, None, book.undo)
        self.check_refused(errors.Nothing, None, book.redo)
        book.do(("room", "hall"))
        self.check_refused(errors.Nothing, None, book.redo)
        self.assertEqual(book.undo(), ("room", "hall"))
        self.check_refused(errors.Nothing, None, book.undo)
        self.assertEqual(book.redo(), ("room", "hall"))
        self.check_refused(errors.Nothing, None, book.redo)
        self.assertEqual(book.house().rooms(), ["hall"])

    def test_what_can_be_done_again_goes_with_a_deed_alone(self):
        def taken_back():
            book = book_of(DEEDS)
            return book, [book.undo() for turn in range(4)]

        for ask in (lambda book: book.ask(("wheel",)), lambda book: book.all_of([]), lambda book: book.scene(),
                    lambda book: book.notes(), lambda book: book.twin().do(("room", "loft")), lambda book: str(book)):
            book, undone = taken_back()
            ask(book)
            self.assertEqual([book.redo() for deed in undone], undone[::-1])
        for deed in BAD:
            book, undone = taken_back()
            with self.assertRaises((errors.DarkError, errors.Missing)):
                book.do(deed)
            self.check_refused(errors.Broken, 1, book.all_of, [("room", "loft"), deed])
            self.assertEqual([book.redo() for turn in undone], undone[::-1])
        for act in (lambda book: book.do(("rule", False, 0)), lambda book: book.all_of([("rule", False, 0)]),
                    lambda book: book.rule(), lambda book: book.watcher("kim")):
            book, undone = taken_back()
            act(book)
            self.check_refused(errors.Nothing, None, book.redo)
            self.assertEqual(len(book), len(DEEDS) - 3)

    def test_a_deed_that_changes_nothing_is_one(self):
        book = book_of((("rule", False, 0), ("rule", False, 0)))
        self.assertEqual(len(book), 2)
        self.assertEqual([book.undo(), book.undo()], [("rule", False, 0)] * 2)

    def test_told_deeds_changed(self):
        book = book_of(DEEDS)
        book.deeds().clear()
        book.notes().append("odd")
        book.posts().append("odd")
        book.watchers().clear()
        book.watches().append("odd")
        self.assertEqual(shape_of(book), shape_due(PlainBook(DEEDS)))

    def test_by_chance(self):
        deeds = notes = 0
        for seed in range(16):
            self.start(seed, LIVELY if seed % 4 else ())
            for part in range(6):
                self.go_on(15)
                self.check_same()
                deeds += len(self.book)
                notes += len(self.book.notes())
            self.check_all_back_and_again()
        self.assertGreater(deeds, 16 * 6 * 15)
        self.assertGreater(notes, 100)


class AllOf(Turning):
    def test_none_to_many(self):
        for many in range(len(DEEDS) + 1):
            for row in (list, tuple):
                book, deeds = Book(), row(DEEDS[:many])
                self.assertIsNone(book.all_of(deeds))
                self.assertEqual(deeds, row(DEEDS[:many]))
                self.assertEqual(shape_of(book), shape_due(PlainBook(DEEDS[:many])))
                self.assertIs(book.busy(), False)
                # Each is taken back by itself.
                for deed in reversed(DEEDS[:many]):
                    self.assertEqual(book.undo(), deed)
                self.check_refused(errors.Nothing, None, book.undo)

    def test_behind_other_deeds(self):
        for many in range(len(DEEDS)):
            book = book_of(DEEDS[:many])
            book.all_of(deeds=DEEDS[many:])
            self.assertEqual(shape_of(book), shape_due(PlainBook(DEEDS)))

    def test_one_refused_at_each_place(self):
        for ahead in (0, 3):
            for at in range(ahead, len(DEEDS) + 1):
                for bad in BAD:
                    book = book_of(DEEDS[:ahead])
                    row = list(DEEDS[ahead:at]) + [bad] + list(DEEDS[at:])
                    kept = list(row)
                    with self.assertRaises(errors.Broken) as caught:
                        book.all_of(row)
                    word, value = refusal_of(PlainBook(DEEDS[:at]).has(), bad)
                    self.assertEqual((caught.exception.at, caught.exception.word), (at - ahead, "Broken"))
                    cause = caught.exception.__cause__
                    self.assertIs(type(cause), getattr(errors, word))
                    self.assertEqual(getattr(cause, "name", None), value)
                    self.assertEqual(row, kept)
                    self.assertIs(book.busy(), False)
                    self.assertEqual(shape_of(book), shape_due(PlainBook(DEEDS[:ahead])))

    def test_the_first_of_several_refused(self):
        book = Book()
        self.check_refused(errors.Broken, 0, book.all_of, [(), ()])
        self.check_refused(errors.Broken, 1, book.all_of, [("room", "hall"), ("room", "hall"), ("room", "Hall")])
        self.assertEqual(len(book), 0)

    def test_busy_meanwhile(self):
        book, seen = Book(), []

        class Looking(list):
            def __iter__(self):
                for deed in list.__iter__(self):
                    seen.append(book.busy())
                    yield deed

        self.assertIs(book.busy(), False)
        book.all_of(Looking(DEEDS))
        self.assertEqual((seen, book.busy()), ([True] * len(DEEDS), False))
        self.assertEqual(book.deeds(), list(DEEDS))


class Twin(Turning):
    def test_each_goes_its_own_way(self):
        book = book_of(DEEDS[:8])
        book.undo()
        book.undo()
        twin = book.twin()
        third = twin.twin()
        self.assertIsInstance(twin, Book)
        for other in (twin, third):
            self.assertIsNot(other, book)
            self.assertEqual(other, book)
            self.assertEqual(shape_of(other), shape_of(book))
        book.do(("room", "loft"))
        self.check_refused(errors.Nothing, None, book.redo)
        self.assertEqual([twin.redo(), twin.redo()], [("delay", "north", 0), ("rule", True, 3)])
        self.check_refused(errors.Nothing, None, twin.redo)
        twin.undo()
        twin.do(("call", "north"))
        self.assertEqual([third.undo(), third.undo()], [DEEDS[5], DEEDS[4]])
        self.assertEqual(book.deeds(), [*DEEDS[:6], ("room", "loft")])
        self.assertEqual(twin.deeds(), [*DEEDS[:7], ("call", "north")])
        self.assertEqual(third.deeds(), list(DEEDS[:4]))
        self.assertEqual([third.redo() for turn in range(4)], list(DEEDS[4:8]))
        for found in (book, twin, third):
            self.assertEqual(shape_of(found), shape_due(PlainBook(found.deeds())))

    def test_by_chance(self):
        for seed in range(6):
            self.start(seed, LIVELY)
            self.go_on(20)
            ways = [(self.book, self.plain)]
            for turn in range(3):
                ways.append((ways[-1][0].twin(), PlainBook(ways[-1][1].deeds, ways[-1][1].undone)))
            for turn in range(9):
                self.book, self.plain = self.chance.one_of(ways)
                ways.remove((self.book, self.plain))
                self.go_on(6)
                ways.append((self.book, self.plain))
            for self.book, self.plain in ways:
                self.check_same()
                self.check_all_back_and_again()


if __name__ == "__main__":
    unittest.main()
