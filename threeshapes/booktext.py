"""Books as texts, and back."""

from threeshapes.books import Book
from threeshapes.errors import BadBook, BadText
from threeshapes.shapetext import read_shape, shape_text

LENGTHS = ("1", "2", "3")
ROWS = 3


def book_text(book):
    """Return the three rows of the book: its length, the entries of its factors and those of its beginnings."""
    return "\n".join([str(book.length), _text_of_entries(book.factors), _text_of_entries(book.beginnings)])


def _text_of_entries(entries):
    return "; ".join([_text_of_entry(entry) for entry in entries])


def _text_of_entry(entry):
    if entry is None:
        return "any"
    if len(entry) == 0:
        return "none"
    return ", ".join([shape_text(shape) for shape in entry])


def read_book(text):
    """Return the book that book_text writes so, or raise BadText with the index of a row."""
    if not isinstance(text, str):
        raise BadText(0)
    rows = text.split("\n")
    if rows[0] not in LENGTHS:
        raise BadText(0)
    length = int(rows[0])
    factors = _read_entries(rows, 1)
    # Nothing is known of the beginnings yet, so what is refused here is refused for the factors.
    _made_book(length, factors, [None] * len(factors), 1)
    book = _made_book(length, factors, _read_entries(rows, 2), 2)
    if len(rows) > ROWS:
        raise BadText(ROWS)
    return book


def _read_entries(rows, index):
    """Return the entries of the row with this index, or raise BadText."""
    if index >= len(rows):
        raise BadText(index)
    try:
        return [_read_entry(entry) for entry in rows[index].split("; ")]
    except BadText:
        raise BadText(index) from None


def _read_entry(text):
    if text == "any":
        return None
    if text == "none":
        return ()
    return tuple([read_shape(shape) for shape in text.split(", ")])


def _made_book(length, factors, beginnings, index):
    """Return the book, or raise BadText with the index of the row whose entries it refuses."""
    try:
        return Book(length, factors, beginnings)
    except BadBook:
        raise BadText(index) from None
