"""The bench: the one object that changes, a book with the deeds that have been done to it."""

from threeshapes.books import BEGINNING, FACTOR, Book
from threeshapes.errors import BadDeed, NothingDone
from threeshapes.numbers import is_sequence
from threeshapes.readings import count_readings, first_reading, fitting_shapes

FORGET = "forget"
FIT = "fit"
# How many items a deed has that begins with this word.
ITEMS = {"factor": 3, "beginning": 3, "forget": 2, "fit": 1}


class Bench:
    """A book, and the log of the deeds that have changed it."""

    def __init__(self, book):
        self.book = book
        # For each deed that stands, the oldest first: the deed, and the book as it was before.
        self._done = []

    @property
    def log(self):
        """The deeds that stand, the oldest first."""
        return tuple([deed for deed, _ in self._done])

    def say_factor(self, place, lot):
        """Put a lot or None in the place of a factor, or raise BadPlace or BadBook."""
        book = self.book.with_factor(place, lot)
        self._keep((FACTOR, place, book.factors[place]), book)

    def say_beginning(self, place, lot):
        """Put a lot or None in the place of a beginning, or raise BadPlace or BadBook."""
        book = self.book.with_beginning(place, lot)
        self._keep((BEGINNING, place, book.beginnings[place]), book)

    def forget_sayings(self, sayings):
        """Put None in the place of these sayings, or raise BadSayings."""
        book = self.book.without(sayings)
        self._keep((FORGET, tuple([tuple(saying) for saying in sayings])), book)

    def fit_lots(self):
        """Put at every place the lot of the shapes that stand there in some reading, or raise Shut."""
        # Asked for the error alone, for the lots of a book without a reading would be empty.
        first_reading(self.book)
        fitting = fitting_shapes(self.book)
        self._keep((FIT,), Book(self.book.length, fitting.factors, fitting.beginnings))

    def _keep(self, deed, book):
        """Put the new book in the place of the old one, and the deed behind the log."""
        self._done.append((deed, self.book))
        self.book = book

    def take_back(self):
        """Undo the last deed and drop it from the log, or raise NothingDone."""
        if len(self._done) == 0:
            raise NothingDone()
        self.book = self._done.pop()[1]

    def do_deeds(self, deeds):
        """Do deeds written as in the log, all of them or, where one raises an error, none; or raise BadDeed."""
        trial = self._tried(deeds)
        self._done.extend(list(trial._done))
        self.book = trial.book

    def _tried(self, deeds):
        """Return another bench on which the deeds have been done to the book, so that an error changes nothing here."""
        _check_deeds(deeds)
        trial = Bench(self.book)
        for deed in deeds:
            trial._do_deed(deed)
        return trial

    def _do_deed(self, deed):
        word = deed[0]
        if word == FACTOR:
            self.say_factor(deed[1], deed[2])
        elif word == BEGINNING:
            self.say_beginning(deed[1], deed[2])
        elif word == FORGET:
            self.forget_sayings(deed[1])
        else:
            self.fit_lots()

    def read_book(self):
        """Return the first reading of the book, or raise Shut."""
        return first_reading(self.book)

    def try_deeds(self, deeds):
        """Return how many readings the book has after these deeds, which are done as do_deeds does them, not kept."""
        return count_readings(self._tried(deeds).book)


def _check_deeds(deeds):
    if not is_sequence(deeds):
        raise BadDeed(0)
    for index, deed in enumerate(deeds):
        if not _is_deed(deed):
            raise BadDeed(index)


def _is_deed(thing):
    """Tell whether thing is a sequence that begins with the word of a deed and has as many items as this deed."""
    if not is_sequence(thing) or len(thing) == 0 or not isinstance(thing[0], str):
        return False
    return ITEMS.get(thing[0]) == len(thing)
