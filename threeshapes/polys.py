"""Polys: polynomials as tuples of whole numbers, the number without x first."""

from threeshapes.errors import BadMany, BadPoly
from threeshapes.numbers import is_sequence, is_whole

MOST_ONES = 12


def make_poly(numbers):
    """Return the poly of these numbers, without the noughts at its end, or raise BadPoly."""
    if not is_sequence(numbers) or not all([is_whole(number) for number in numbers]):
        raise BadPoly()
    return _ended(numbers)


def _ended(numbers):
    """Return the numbers as a tuple without the noughts at its end."""
    long = len(numbers)
    while long > 0 and numbers[long - 1] == 0:
        long = long - 1
    return tuple(numbers[:long])


def poly_plus(one, other):
    """Return the sum of two polys."""
    long = max(len(one), len(other))
    return _ended([number + more for number, more in zip(_padded(one, long), _padded(other, long))])


def poly_minus(one, other):
    """Return one less other."""
    long = max(len(one), len(other))
    return _ended([number - less for number, less in zip(_padded(one, long), _padded(other, long))])


def _padded(poly, long):
    return list(poly) + [0] * (long - len(poly))


def poly_times(one, other):
    """Return the product of two polys."""
    numbers = [0] * (len(one) + len(other))
    for at, number in enumerate(one):
        for place, times in enumerate(other, at):
            numbers[place] = numbers[place] + number * times
    return _ended(numbers)


def poly_at(poly, number):
    """Return the value of the poly at a whole number."""
    value = 0
    for own in poly[::-1]:
        value = value * number + own
    return value


def shift_poly(poly, by):
    """Return the poly whose value at each x is that of the given one at x + by."""
    shifted = ()
    for own in poly[::-1]:
        shifted = poly_plus(poly_times(shifted, (by, 1)), (own,))
    return shifted


def power_poly(exponent):
    """Return the poly x to the power of an exponent from 0; nothing is checked."""
    return (0,) * exponent + (1,)


def p_count(many, taken):
    """Return the poly of the number of rooms within of so many ones taken in a room of many ones."""
    if not is_whole(many, 0, MOST_ONES):
        raise BadMany(many)
    if not is_whole(taken):
        raise BadMany(taken)
    if not 0 <= taken <= many:
        return ()
    # The counts by how many are taken, for so many ones; each round adds one more of them.
    counts = [(1,)]
    for _ in range(many):
        kept = [poly_times(power_poly(at), count) for at, count in enumerate(counts)]
        counts = [poly_plus(one, other) for one, other in zip([*kept, ()], [(), *counts])]
    return counts[taken]
