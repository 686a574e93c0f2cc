"""Fillings: how one shape grows to another one, letter by letter."""

from threeshapes.errors import BadFilling, BadShape, NoRow
from threeshapes.numbers import is_sequence, is_whole
from threeshapes.shapes import check_shape

MOST_ROWS = 24


class Filling:
    """Counts of letters in rows that keep the rules AFTER, COLUMN and WORD."""

    def __init__(self, before, after, counts):
        before = _part_of_filling(before)
        after = _part_of_filling(after)
        size = len(before)
        if len(after) != size:
            raise BadFilling("shapes")
        if not _are_counts(counts, size):
            raise BadFilling("counts")
        counts = tuple([tuple(row) for row in counts])
        grown = _grown_shapes(before, counts)
        if grown[size] != after:
            raise BadFilling("after")
        if not _keeps_columns(grown):
            raise BadFilling("column")
        if not _keeps_words(counts):
            raise BadFilling("word")
        self.before = before
        self.after = after
        self.counts = counts
        self._grown = grown

    def __eq__(self, other):
        return (
            isinstance(other, Filling) and self.before == other.before
            and self.after == other.after and self.counts == other.counts
        )

    @property
    def content(self):
        """The shape whose parts tell how often each letter stands."""
        return tuple([sum(row) for row in self.counts])

    @property
    def chain(self):
        """The shapes from before to after, one more for each letter."""
        return self._grown

    def letters_in_row(self, row):
        """Return the letters of a row, ascending, each as often as it stands there, or raise NoRow."""
        if not is_whole(row, 1, len(self.before)):
            raise NoRow(row)
        letters = []
        for at in range(row):
            letters.extend([at + 1] * self.counts[at][row - 1 - at])
        return tuple(letters)


def _part_of_filling(thing):
    """Return the shape, or raise BadFilling."""
    try:
        return check_shape(thing, None, MOST_ROWS)
    except BadShape:
        raise BadFilling("shapes") from None


def _are_counts(thing, size):
    """Tell whether thing is a sequence of sequences of size, size - 1, .., 1 whole numbers from 0."""
    if not is_sequence(thing) or len(thing) != size:
        return False
    for at, row in enumerate(thing):
        if not is_sequence(row) or len(row) != size - at:
            return False
        if not all([is_whole(number, 0) for number in row]):
            return False
    return True


def _grown_shapes(before, counts):
    """Return the chain that begins with before and grows by the counts."""
    grown = [before]
    for at, row in enumerate(counts):
        last = grown[-1]
        grown.append(last[:at] + tuple([part + number for part, number in zip(last[at:], row)]))
    return tuple(grown)


def _keeps_columns(grown):
    """Tell whether no part grows above the part ahead of it in the shape before."""
    for shape, later in zip(grown, grown[1:]):
        if not all([part <= bound for part, bound in zip(later[1:], shape)]):
            return False
    return True


def _keeps_words(counts):
    """Tell whether each letter, up to each row, stands at most as often as the letter before up to the row before."""
    for row, later in zip(counts, counts[1:]):
        ahead = 0
        for number, next_number in zip(row, later):
            ahead = ahead + number - next_number
            if ahead < 0:
                return False
    return True


def filling_of_chain(chain):
    """Return the filling whose chain begins with these shapes and stays at the last of them."""
    shapes = _shapes_of_chain(chain)
    size = len(shapes[0])
    counts = []
    for at, (shape, later) in enumerate(zip(shapes, shapes[1:])):
        steps = [part - less for part, less in zip(later, shape)]
        # No letter stands in a row above its own number. Steps below 0 are left to Filling, for the same word.
        if any([step != 0 for step in steps[:at]]):
            raise BadFilling("counts")
        counts.append(steps[at:])
    for at in range(len(counts), size):
        counts.append([0] * (size - at))
    return Filling(shapes[0], shapes[-1], counts)


def _shapes_of_chain(chain):
    """Return the chain as a list of shapes of one length, or raise BadFilling."""
    if not is_sequence(chain) or len(chain) < 2:
        raise BadFilling("shapes")
    shapes = [_part_of_filling(shape) for shape in chain[:MOST_ROWS + 1]]
    size = len(shapes[0])
    if len(chain) > size + 1 or not all([len(shape) == size for shape in shapes]):
        raise BadFilling("shapes")
    return shapes
