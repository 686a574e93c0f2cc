"""Books: what is known of the shapes of up to four tables and of the products of the first of them."""

from threeshapes.errors import BadBook, BadPlace, BadSayings, BadShape
from threeshapes.numbers import is_sequence, is_whole
from threeshapes.shapes import check_shape

MOST_LENGTH = 3
MOST_PLACES = 4
MOST_ITEMS = 100
MOST_OF_FACTOR = 3
MOST_OF_BEGINNING = 6
FACTOR = "factor"
BEGINNING = "beginning"


class Book:
    """A lot of shapes, or None for all of them, for the factor and the beginning of each place."""

    def __init__(self, length, factors, beginnings):
        if not is_whole(length, 1, MOST_LENGTH):
            raise BadBook("length", 0)
        if not is_sequence(factors) or not 1 <= len(factors) <= MOST_PLACES:
            raise BadBook("factors", 0)
        for place, entry in enumerate(factors):
            if not _is_entry(length, entry, MOST_OF_FACTOR):
                raise BadBook(FACTOR, place)
        if not is_sequence(beginnings) or len(beginnings) != len(factors):
            raise BadBook("beginnings", 0)
        for place, entry in enumerate(beginnings):
            if not _is_entry(length, entry, MOST_OF_BEGINNING):
                raise BadBook(BEGINNING, place)
        self.length = length
        self.factors = tuple([_kept_entry(entry) for entry in factors])
        self.beginnings = tuple([_kept_entry(entry) for entry in beginnings])

    def __eq__(self, other):
        return (
            isinstance(other, Book) and self.length == other.length
            and self.factors == other.factors and self.beginnings == other.beginnings
        )

    @property
    def sayings(self):
        """The couples of a word and a place whose entry is not None, by place, the factor first."""
        found = []
        for place, factor in enumerate(self.factors):
            if factor is not None:
                found.append((FACTOR, place))
            if self.beginnings[place] is not None:
                found.append((BEGINNING, place))
        return tuple(found)

    def without(self, sayings):
        """Return the book with None for these sayings, or raise BadSayings."""
        bad = first_bad_saying(self, sayings)
        if bad is not None:
            raise BadSayings(bad)
        forgotten = [tuple(saying) for saying in sayings]
        return Book(
            self.length,
            [None if (FACTOR, place) in forgotten else entry for place, entry in enumerate(self.factors)],
            [None if (BEGINNING, place) in forgotten else entry for place, entry in enumerate(self.beginnings)],
        )

    def with_factor(self, place, lot):
        """Return the book with this entry for a factor, or raise BadPlace or BadBook."""
        return Book(self.length, _replaced(self.factors, place, lot), self.beginnings)

    def with_beginning(self, place, lot):
        """Return the book with this entry for a beginning, or raise BadPlace or BadBook."""
        return Book(self.length, self.factors, _replaced(self.beginnings, place, lot))

    def first_places(self, many):
        """Return the book of the first places, or raise BadPlace."""
        if not is_whole(many, 1, len(self.factors)):
            raise BadPlace()
        return Book(self.length, self.factors[:many], self.beginnings[:many])


def _is_entry(length, thing, most):
    """Tell whether thing is None or a lot of shapes of this length with no part above most."""
    if thing is None:
        return True
    if not is_sequence(thing) or len(thing) > MOST_ITEMS:
        return False
    return all([_is_item(length, item, most) for item in thing])


def _is_item(length, thing, most):
    try:
        shape = check_shape(thing, length)
    except BadShape:
        return False
    return shape[0] <= most


def _kept_entry(entry):
    """Return the lot ascending, without doubles, or None."""
    return None if entry is None else tuple(sorted(set([tuple(shape) for shape in entry])))


def _replaced(entries, place, entry):
    if not is_whole(place, 0, len(entries) - 1):
        raise BadPlace()
    return [*entries[:place], entry, *entries[place + 1:]]


def first_bad_saying(book, things):
    """Return the index of the first item that is no saying of the book or comes twice, or None.

    The index is 0 for what is no sequence.
    """
    if not is_sequence(things):
        return 0
    known = list(book.sayings)
    for index, thing in enumerate(things):
        if not _is_couple(thing) or tuple(thing) not in known:
            return index
        # A saying is known just once, so that it is refused when it comes again.
        known.remove(tuple(thing))
    return None


def _is_couple(thing):
    return is_sequence(thing) and len(thing) == 2 and isinstance(thing[0], str) and is_whole(thing[1])
