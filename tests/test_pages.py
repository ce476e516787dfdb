"""Pages: a book's deeds as a text, there and back."""

import unittest

from darkthread import errors
from darkthread.book import Book
from darkthread.lines import deed_of, deed_text
from darkthread.pages import page, read_page
from tests.plain import Chance
from tests.plainbook import PlainBook, book_of, shape_of
from tests.refusing import Refusing
from tests.somedeeds import LIVELY, some_deed
from tests.texts import is_line

ROWS = ("room hall", "room stair", "room attic", "door hall stair", "door stair attic", "sight hall attic",
        "watcher zoe 1", "watch w way hall attic -4", "post p hall,stair,hall 2", "rule yes 3", "watcher abe 0",
        "post q stair 0", "delay p 1", "unwatch w")
TEXT = "".join(row + "\n" for row in ROWS)


def page_of(rows):
    return "".join(row + "\n" for row in rows)


def first_wrong(text):
    """The number of the first wrong row, None where there is none, by going from row to row."""
    rows, plain = text.split("\n"), PlainBook()
    for at, row in enumerate(rows[:-1]):
        if not is_line(row) or plain.refusal(deed_of(row)) is not None:
            return at
        plain.do(deed_of(row))
    return len(rows) - 1 if rows[-1] else None


class ThereAndBack(Refusing):
    def check_back(self, book):
        text = page(book)
        self.assertEqual((text, type(text)), (str(book), str))
        self.assertEqual(text, "".join(deed_text(deed) + "\n" for deed in book.deeds()))
        found = read_page(text)
        self.assertIsInstance(found, Book)
        self.assertEqual(found, book)
        self.assertEqual(shape_of(found), shape_of(book))
        self.check_refused(errors.Nothing, None, found.redo)
        self.assertEqual(page(found), text)

    def test_the_empty_text(self):
        self.assertEqual(page(Book()), "")
        self.assertEqual(shape_of(read_page("")), shape_of(Book()))
        self.check_back(Book())

    def test_by_hand(self):
        book = read_page(TEXT)
        self.assertEqual(len(book), len(ROWS))
        self.assertEqual(page(book=book), TEXT)
        self.assertEqual(read_page(text=TEXT), book)
        self.assertEqual(book.notes(), [(9, "w", 2, None)])
        self.check_back(book)
        for row in reversed(ROWS):
            self.assertEqual(page(book).split("\n")[-2], row)
            book.undo()
            self.check_back(book)

    def test_behind_any_turns(self):
        for seed in range(12):
            chance, book = Chance(seed), book_of(LIVELY)
            for turn in range(80):
                try:
                    (book.undo if chance.below(5) == 0 else book.redo if chance.below(8) == 0 else
                     lambda: book.do(some_deed(chance, book)))()
                except (errors.DarkError, errors.Missing, errors.Nothing):
                    pass
                if turn % 20 == 0:
                    self.check_back(book)
            self.check_back(book)

    def test_askings_that_cannot_be_so_written(self):
        for asking in (("where", "Hall", 3), ("where", "a b", 3), ("lit", 10 ** 10), ("lit", -(10 ** 10)),
                       ("meets", "", "p"), ("way", "ninesigns", "a"), ("linger", "x\ny", 0)):
            book = book_of((("room", "hall"), ("watch", "w", asking), ("room", "den")))
            self.assertEqual(page(book), f"room hall\nwatch w {' '.join(map(str, asking))}\nroom den\n")
            self.check_refused(errors.BadText, 1, read_page, page(book))

    def test_nothing_is_changed(self):
        book = read_page(TEXT)
        book.undo()
        page(book)
        self.assertEqual(book.redo(), ("unwatch", "w"))


class BadPages(Refusing):
    def check_bad(self, row, text):
        self.check_refused(errors.BadText, row, read_page, text)

    def check(self, text):
        """Refused with the first wrong row, or read; whether it is read."""
        wrong = first_wrong(text)
        if wrong is None:
            self.assertEqual(page(read_page(text)), text)
        else:
            self.check_bad(wrong, text)
        return wrong is None

    def test_rows_bent_out_twice_exchanged_put_in(self):
        found = []
        for at in range(len(ROWS)):
            found.append(self.check(page_of(ROWS[:at] + ROWS[at + 1:])))
            found.append(self.check(page_of(ROWS[:at] + ROWS[at:at + 1] + ROWS[at:])))
            for other in ("", " ", "room den", "room Den", "odd", ROWS[at] + " ", " " + ROWS[at], ROWS[at].upper(),
                          ROWS[at][:-1], "undo", "strike hall", "call p", "unwatch w", "leave zoe"):
                found.append(self.check(page_of(ROWS[:at] + (other,) + ROWS[at:])))
                found.append(self.check(page_of(ROWS[:at] + (other,) + ROWS[at + 1:])))
            for other in range(at):
                rows = list(ROWS)
                rows[at], rows[other] = rows[other], rows[at]
                found.append(self.check(page_of(rows)))
        self.assertGreater(found.count(True), 30)
        self.assertGreater(found.count(False), 100)

    def test_the_end_cut_or_lengthened(self):
        for size in range(len(TEXT)):
            self.check(TEXT[:size])
        self.check_bad(len(ROWS) - 1, TEXT[:-1])
        self.check_bad(len(ROWS), TEXT + "room den")
        self.check_bad(len(ROWS), TEXT + "\n")
        self.check_bad(len(ROWS), TEXT + " ")
        self.check_bad(len(ROWS), TEXT + "x\n")
        self.check_bad(len(ROWS), TEXT + "room hall\n")
        self.check_bad(0, "\n")
        self.check_bad(0, "room hall")
        self.check_bad(0, " ")
        self.check_bad(0, "room Hall")
        self.check_bad(1, "room hall\nroom hall")
        self.check_bad(1, "room hall\nroom den")
        self.check_bad(1, "room hall\n\nroom Den\n")
        self.check_bad(0, "\n" + TEXT)

    def test_a_row_whose_deed_is_refused(self):
        for row, kind in (("room hall", "Taken"), ("call x", "NoPost"), ("strike stair", "Leans"), ("leave kim", "NoWatcher"),
                          ("wall hall attic", "NoDoor"), ("curtain attic hall", "NoSight"), ("unwatch v", "NoWatch"),
                          ("post r - 0", "BadRound"), ("post r shed 0", "NoRoom"), ("post r hall,attic 0", "NotAWalk"),
                          ("post r hall 7", "BadNumber"), ("rule yes 9", "BadNumber"), ("door hall hall", "Loop")):
            with self.assertRaises(errors.BadText) as caught:
                read_page(TEXT + row + "\n" + "odd\n")
            self.assertEqual((caught.exception.row, caught.exception.word), (len(ROWS), "BadText"))
            self.assertEqual(caught.exception.__cause__.word, kind)

    def test_full(self):
        rows = [f"room {name}" for name in "abcdefgh"]
        self.assertEqual(len(read_page(page_of(rows)).house()), 8)
        self.check_bad(8, page_of(rows + ["room i", "room A"]))
        rows = [f"watch {name} wheel" for name in "abcd"]
        self.check_bad(4, page_of(rows + ["watch e wheel"]))


if __name__ == "__main__":
    unittest.main()
