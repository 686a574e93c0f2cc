"""Plain reckonings of books for the tests; nothing is the package's own but what makes the books."""

import itertools

from tests.plain import falling_rows, shapes_of_sum
from tests.plainrows import plain_products

# Books by their three arguments, of every length and of 1 to 4 places; some are shut, at every place.
BOOKS = (
    (1, (None,), (None,)), (1, ([],), (None,)), (1, (None,), ([],)), (1, (((3,),),), (((6,),),)),
    (1, (None, None, None, None), (None, None, None, None)), (1, (None,) * 4, (None, None, None, ((0,), (5,)))),
    (1, (((1,),), ((2,), (3,)), ((0,),)), (None, ((4,),), None)), (1, (((3,),),) * 3, (None,) * 3),
    (1, (((1,), (2,)),) * 4, (None, ((2,), (3,)), ((5,), (6,)), ((6,),))), (1, (((2,),), ()), (None, None)),
    (2, (((1, 0),), ((2, 0), (1, 1))), (None, ((2, 2), (3, 0), (1, 1)))),
    (2, (((1, 0),), ((2, 0), (1, 1))), (None, ((2, 2), (1, 1)))),
    (2, (None, ((1, 0),)), (None, ((2, 1), (3, 3)))), (2, (((1, 1), (3, 0)), None), (None, ((4, 2),))),
    (2, (((2, 0), (1, 1), (2, 0)),) * 3, (((2, 0), (1, 1)), None, ((4, 2), (3, 3)))),
    (2, (((3, 3),), ((3, 3),), ((1, 0),)), (None, None, None)), (2, (((1, 0),), ((1, 0),), ()), (None, (), None)),
    (2, (((1, 0),),) * 4, (((1, 0),), ((1, 1), (2, 0)), ((2, 1),), ((2, 2), (3, 1), (4, 0)))),
    (2, (((1, 0), (0, 0)),) * 4, (None, ((1, 1),), None, ((2, 1),))), (2, (((0, 0),),), (((0, 0), (1, 0)),)),
    (2, (((3, 0),), ((3, 0),)), (None, ((3, 3), (5, 1)))), (2, (((3, 0),), ((3, 0), (1, 1))), (None, ((3, 1), (6, 1)))),
    (3, (((2, 1, 0),), ((2, 1, 0),)), (None, ((4, 1, 1), (2, 2, 2), (5, 1, 0)))),
    (3, (((2, 1, 0),), ((2, 1, 0),)), (((2, 1, 0), (1, 1, 1)), ((6, 0, 0), (5, 1, 0)))),
    (3, (((1, 0, 0), (1, 1, 0)), ((1, 1, 1), (2, 0, 0)), ((1, 0, 0),)), (((1, 1, 0), (1, 0, 0)), None, ((2, 2, 1), (3, 1, 1)))),
    (3, (((1, 1, 1),), ((3, 2, 1),), ((0, 0, 0),), ((1, 0, 0),)), (((1, 1, 1),), ((4, 3, 2),), ((4, 3, 2),), None)),
    (3, (((3, 3, 3),), ((3, 3, 2),)), (((3, 3, 3),), ((6, 6, 5), (6, 6, 6)))), (3, (None,), (((2, 1, 1),),)),
)


def drawn_book(chance, lengths=(1, 2, 3), places=(1, 2, 3, 4), nones=2):
    """The three arguments of a book with few Nones and small lots, many of them near what comes of the others."""
    length = chance.choice(lengths)
    many = chance.choice(places)
    small = falling_rows(length, {1: 3, 2: 2, 3: 1}[length])
    factors = [tuple(chance.choices(small, k=chance.randint(0, 3) or 2)) for _ in range(many)]
    beginnings = []
    shapes = [(0,) * length]
    for lot in factors:
        shapes = sorted({shape for before in shapes for factor in lot for shape in plain_products(before, factor)
                         if shape[0] <= 6})
        near = shapes + [shape for total in {sum(shape) for shape in shapes} for shape in shapes_of_sum(length, total, 6)]
        beginnings.append(tuple(chance.choices(near, k=chance.randint(1, 4))) if near else ())
    for _ in range(chance.randint(0, nones)):
        lots = chance.choice((factors, beginnings, beginnings))
        lots[chance.randrange(many)] = None
    return (length, tuple(factors), tuple(beginnings))


def plain_lot(length, entry, most):
    """The lot ascending, without doubles; for None all shapes."""
    if entry is None:
        return falling_rows(length, most)
    return sorted({tuple(shape) for shape in entry})


def plain_lots(length, factors, beginnings):
    return [
        (plain_lot(length, factor, 3), plain_lot(length, beginning, 6))
        for factor, beginning in zip(factors, beginnings)
    ]


def plain_readings(length, factors, beginnings):
    """All readings as couples (factors, beginnings), ascending by factor 0, beginning 0, factor 1, beginning 1, .."""
    found = [()]
    for lot, afters in plain_lots(length, factors, beginnings):
        longer = []
        for begun in found:
            before = begun[-1] if begun else (0,) * length
            for factor in lot:
                products = plain_products(before, factor)
                longer.extend(begun + (factor, after) for after in afters if after in products)
        found = longer
    return [(way[::2], way[1::2]) for way in sorted(found)]


def plain_come(length, factors, beginnings):
    """For each place the beginnings of the readings up to there."""
    come = []
    for many in range(1, len(factors) + 1):
        readings = plain_readings(length, factors[:many], beginnings[:many])
        come.append(tuple(sorted({reading[1][-1] for reading in readings})))
    return tuple(come)


def plain_steps(length, factors, beginnings, place, befores):
    """All steps at the place whose sums agree, ascending."""
    lot, afters = plain_lots(length, factors, beginnings)[place]
    return tuple(
        (before, factor, after)
        for before, factor, after in itertools.product(befores, lot, afters)
        if sum(before) + sum(factor) == sum(after)
    )


def plain_without(length, factors, beginnings, sayings):
    """The three arguments with None in the place of these sayings."""
    entries = {"factor": list(factors), "beginning": list(beginnings)}
    for word, place in sayings:
        entries[word][place] = None
    return (length, tuple(entries["factor"]), tuple(entries["beginning"]))


def plain_sayings(factors, beginnings):
    found = []
    for place in range(len(factors)):
        for word, entries in (("factor", factors), ("beginning", beginnings)):
            if entries[place] is not None:
                found.append((word, place))
    return tuple(found)
