"""Pages: a book's deeds as one text, there and back."""

from darkthread.book import Book
from darkthread.errors import BadText, DarkError, Missing
from darkthread.lines import deed_of


def page(book):
    """The deeds that stand, each with a line feed behind it."""
    return str(book)


def do_row(book, row, at):
    """Do the deed of the row at a place of a page."""
    try:
        book.do(deed_of(row))
    except (DarkError, Missing) as refusal:
        raise BadText(at) from refusal


def read_page(text):
    """The book in which the deeds of a page were done."""
    book = Book()
    # Behind the last line feed there is nothing, unless a row lacks its own.
    *rows, rest = text.split("\n")
    for at, row in enumerate(rows):
        do_row(book, row, at)
    if rest != "":
        raise BadText(len(rows))
    return book
