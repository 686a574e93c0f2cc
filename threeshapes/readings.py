"""Readings of books: shapes out of the lots that tables and their products can have together."""

from threeshapes.books import MOST_OF_BEGINNING, MOST_OF_FACTOR
from threeshapes.errors import Shut
from threeshapes.listing import is_product
from threeshapes.numbers import check_prime
from threeshapes.tablerows import tables_of_beginnings


class Reading:
    """A row of factors with the beginnings of a way."""

    def __init__(self, factors, beginnings):
        self.factors = factors
        self.beginnings = beginnings


class Fitting:
    """For each place the shapes of the factor, and those of the beginning, that stand there in some reading."""

    def __init__(self, factors, beginnings):
        self.factors = factors
        self.beginnings = beginnings


class Why:
    """The place at which a book is shut, and all steps of which one would have to be possible."""

    def __init__(self, place, steps):
        self.place = place
        self.steps = steps


def all_readings(book):
    """Yield all readings of the book, ascending by factor 0, beginning 0, factor 1, beginning 1 and so on."""
    steps = _steps_through(book)
    before = _nothing(book)
    begun = ()
    for couples in _readings_on(steps, before, begun):
        factors = tuple([factor for factor, _ in couples])
        yield Reading(factors, tuple([after for _, after in couples]))


def _readings_on(steps, before, begun):
    """Yield, ascending, all readings that begin so, as couples of a factor and a beginning for each place."""
    if len(begun) == len(steps):
        yield begun
        return
    for couple in steps[len(begun)].get(before, []):
        after = couple[1]
        longer = (*begun, couple)
        for couples in _readings_on(steps, after, longer):
            yield couples


def _nothing(book):
    """Return the shape that stands before all places: behind it each factor has itself as the only product shape."""
    return (0,) * book.length


def _lots_of(book):
    """Return for each place the lot of the factor and that of the beginning, also where None stands."""
    return [
        (
            _all_shapes(book.length, MOST_OF_FACTOR) if factor is None else factor,
            _all_shapes(book.length, MOST_OF_BEGINNING) if beginning is None else beginning,
        )
        for factor, beginning in zip(book.factors, book.beginnings)
    ]


def _all_shapes(length, most):
    """Return all shapes of so many parts with no part above most, ascending."""
    shapes = [()]
    for _ in range(length):
        shapes = [(*shape, part) for shape in shapes for part in range((shape[-1] if shape else most) + 1)]
    return shapes


def _agreeing(shapes, factors, beginnings):
    """Return for each of the shapes, ascending, the couples of a factor and a beginning whose sums agree with it."""
    by_sum = {}
    for shape in beginnings:
        by_sum.setdefault(sum(shape), []).append(shape)
    return {
        before: [(factor, after) for factor in factors for after in by_sum.get(sum(before) + sum(factor), [])]
        for before in shapes
    }


def _steps_ahead(book):
    """Return for each place a dict: for each shape that comes before it the couples that are possible behind it."""
    steps = []
    shapes = [_nothing(book)]
    for factors, beginnings in _lots_of(book):
        step = {}
        for before, couples in _agreeing(shapes, factors, beginnings).items():
            step[before] = [(factor, after) for factor, after in couples if is_product(before, factor, after)]
        steps.append(step)
        shapes = _afters_of(step)
    return steps


def _afters_of(step):
    """Return the beginnings to which this step leads, ascending."""
    return tuple(sorted(set([after for couples in step.values() for _, after in couples])))


def _factors_of(step):
    """Return the factors with which this step is done, ascending."""
    return tuple(sorted(set([factor for couples in step.values() for factor, _ in couples])))


def _steps_through(book):
    """Return the steps ahead without those that do not stand in a reading of the whole book."""
    steps = []
    for step in _steps_ahead(book)[::-1]:
        kept = {}
        for before, couples in step.items():
            fitting = [(factor, after) for factor, after in couples if not steps or after in steps[-1]]
            if fitting:
                kept[before] = fitting
        steps.append(kept)
    return steps[::-1]


def count_readings(book):
    """Return how many readings the book has."""
    counts = {_nothing(book): 1}
    for step in _steps_ahead(book):
        more = {}
        for before, couples in step.items():
            for _, after in couples:
                more[after] = more.get(after, 0) + counts[before]
        counts = more
    return sum(counts.values())


def first_reading(book):
    """Return the first reading, or raise Shut."""
    for reading in all_readings(book):
        return reading
    raise Shut(_shut_place(come_shapes(book)))


def has_reading(book):
    """Tell whether the book has a reading."""
    return come_shapes(book)[-1] != ()


def _shut_place(come):
    """Return the first place to which no shape comes."""
    return come.index(())


def tables_of_book(prime, book):
    """Return tables of the first reading, or raise Shut."""
    check_prime(prime)
    reading = first_reading(book)
    return tables_of_beginnings(prime, reading.factors, reading.beginnings)


def come_shapes(book):
    """Return for each place the shapes that the readings of the book up to this place have as its beginning."""
    return tuple([_afters_of(step) for step in _steps_ahead(book)])


def fitting_shapes(book):
    """Return for each place the shapes that stand there in some reading of the whole book."""
    steps = _steps_through(book)
    return Fitting(tuple([_factors_of(step) for step in steps]), tuple([_afters_of(step) for step in steps]))


def why_shut(book):
    """Return None if the book has a reading, otherwise the place and the steps by which it is shut."""
    come = come_shapes(book)
    if come[-1] != ():
        return None
    place = _shut_place(come)
    if place == 0:
        return Why(place, ())
    factors, beginnings = _lots_of(book)[place]
    agreeing = _agreeing(come[place - 1], factors, beginnings)
    return Why(place, tuple([
        (before, factor, after)
        for before, couples in agreeing.items()
        for factor, after in couples
    ]))
