"""Product shapes: the shapes that a product of two tables of given shapes can have."""

from threeshapes.bars import Bars
from threeshapes.errors import BadStretch, NoPart, TooMany
from threeshapes.listing import count_fillings
from threeshapes.numbers import is_whole
from threeshapes.shapes import check_alike_shapes

MOST_PARTS = 4
MOST_SUM = 40
MOST_STRETCH = 6


def product_shapes(a, b):
    """Return all product shapes of a and b, ascending."""
    a, b = check_alike_shapes((a, b), MOST_PARTS)
    total = sum(a) + sum(b)
    if total > MOST_SUM:
        raise TooMany(MOST_SUM)
    bars = Bars(len(a))
    # No product shape has a greater part than the first part of the greatest product.
    return tuple([c for c in _shapes_of_sum(len(a), total, a[0] + b[0]) if bars.first_broken(a, b, c) is None])


def factor_shapes(a, c):
    """Return all shapes b, ascending, for which c is a product shape of a and b."""
    a, c = check_alike_shapes((a, c), MOST_PARTS)
    if sum(c) > MOST_SUM:
        raise TooMany(MOST_SUM)
    bars = Bars(len(a))
    # No part of c is below the same part of b, so no part of b is above the first part of c.
    return tuple([b for b in _shapes_of_sum(len(a), sum(c) - sum(a), c[0]) if bars.first_broken(a, b, c) is None])


def _shapes_of_sum(length, total, most):
    """Return all shapes of so many parts with this sum and no part above most, ascending."""
    if total < 0:
        return []
    shapes = [()]
    for left in range(length, 0, -1):
        shapes = [
            (*shape, part)
            for shape in shapes
            for part in _next_parts(total - sum(shape), left, shape[-1] if shape else most)
        ]
    return shapes


def _next_parts(rest, left, most):
    """Return what the next part can be, ascending, if the parts left have this sum and are at most so great."""
    least = (rest + left - 1) // left
    return list(range(least, min(rest, most) + 1))


def greatest_product(a, b):
    """Return the greatest product shape: part added to part."""
    a, b = check_alike_shapes((a, b), MOST_PARTS)
    return tuple([part + more for part, more in zip(a, b)])


def least_product(a, b):
    """Return the least product shape: parts added from the two ends, in falling order."""
    a, b = check_alike_shapes((a, b), MOST_PARTS)
    sums = [part + more for part, more in zip(a, b[::-1])]
    return tuple(sorted(sums, reverse=True))


def part_range(a, b, part):
    """Return the least and the greatest number that this part has in any product shape, or raise NoPart."""
    a, b = check_alike_shapes((a, b), MOST_PARTS)
    size = len(a)
    if not is_whole(part, 1, size):
        raise NoPart(part)
    # The places i and j, counted from 1, are those with i + j = part + 1, and with i + j = part + size.
    greatest = min([a[i - 1] + b[part - i] for i in range(1, part + 1)])
    least = max([a[i - 1] + b[part + size - i - 1] for i in range(part, size + 1)])
    return (least, greatest)


def stretched_number(a, b, c, by):
    """Return the number of fillings from a to c with content b after all parts are multiplied."""
    shapes = check_alike_shapes((a, b, c), MOST_PARTS)
    if not is_whole(by, 0, MOST_STRETCH):
        raise BadStretch(by)
    before, content, after = [tuple([part * by for part in shape]) for shape in shapes]
    return count_fillings(before, content, after)
