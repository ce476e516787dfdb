"""Desks: lines for a book, and what they are answered by."""

from darkthread.askings import read_asking, shown
from darkthread.book import Book
from darkthread.errors import BadText, DarkError, Missing, Nothing
from darkthread.lines import deed_of, deed_text

ASK = "ask "


def notes_text(notes):
    """Notes as one line."""
    if len(notes) == 0:
        return "none"
    return "; ".join([f"{deeds} {name} {shown(before)} > {shown(now)}" for deeds, name, before, now in notes])


def told_by_line(book, line):
    """What a line is answered by, where it is not refused."""
    if line == "undo":
        return deed_text(book.undo())
    if line == "redo":
        return deed_text(book.redo())
    if line == "notes":
        return notes_text(book.notes())
    if line.startswith(ASK):
        return shown(book.ask(read_asking(line[len(ASK):])))
    book.do(deed_of(line))
    return "done"


class Desk:
    """A desk at which lines are answered for one book."""

    def __init__(self, book=None):
        self.held = Book() if book is None else book

    def book(self):
        """The book."""
        return self.held

    def say(self, line):
        """What a line is answered by."""
        try:
            return told_by_line(self.held, line)
        except BadText:
            return "no line"
        except (DarkError, Missing, Nothing) as refusal:
            return f"no {refusal.word}"
