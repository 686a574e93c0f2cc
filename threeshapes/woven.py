"""Woven shapes: those of the tables that are left when rows are struck out of a table."""

from math import comb

from threeshapes.errors import BadMany, BadShape
from threeshapes.numbers import is_whole
from threeshapes.shapes import check_shape


def is_woven(shape, part):
    """Tell whether part is woven into shape."""
    return unwoven_place(shape, part) is None


def unwoven_place(shape, part):
    """Return the least index of a part of part that is out of its bounds, or None if part is woven into shape."""
    shape = check_shape(shape)
    part = check_shape(part)
    if len(part) > len(shape):
        raise BadShape("many")
    for place, (low, high) in enumerate(_bounds_of(shape, len(part))):
        if not low <= part[place] <= high:
            return place
    return None


def _bounds_of(shape, many):
    """Return the least and the greatest number that each part of a woven shape of so many parts can be."""
    return list(zip(shape[len(shape) - many:], shape))


def woven_shapes(shape, many):
    """Return all shapes of so many parts that are woven into shape, ascending."""
    shape, many = _check_many(shape, many)
    found = [()]
    for low, high in _bounds_of(shape, many):
        # The bounds fall, too, so what is begun here can always be carried on.
        found = [
            (*begun, part)
            for begun in found
            for part in range(low, min(high, begun[-1] if begun else high) + 1)
        ]
    return tuple(found)


def _check_many(shape, many):
    shape = check_shape(shape)
    if not is_whole(many, 1, len(shape)):
        raise BadMany(many)
    return shape, many


def count_woven(shape, many):
    """Return how many shapes of so many parts are woven into shape."""
    shape, many = _check_many(shape, many)
    bounds = _bounds_of(shape, many)
    # Between two neighbours of these edges every number fits the same parts, so numbers need not be gone through.
    edges = sorted(set([low for low, _ in bounds] + [high + 1 for _, high in bounds]))[::-1]
    # For each number of parts, how often the first so many of them can be chosen from the numbers gone through.
    counts = [1] + [0] * many
    for upper, lower in zip(edges, edges[1:]):
        fits = [low <= lower and upper <= high + 1 for low, high in bounds]
        counts = [
            sum([counts[done] * _count_falling(upper - lower, fits[done:now]) for done in range(now + 1)])
            for now in range(many + 1)
        ]
    return counts[many]


def _count_falling(numbers, fits):
    """Return how many falling choices of so many numbers there are for these parts, if the numbers fit them all."""
    return comb(numbers + len(fits) - 1, len(fits)) if all(fits) else 0
