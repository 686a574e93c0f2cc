"""The shape of a table at a prime, and the turning of a table to its diagonal."""

from itertools import combinations

from threeshapes.errors import BadMany, BadMore, BadShape, BadTable, Flat, NotInvertible
from threeshapes.numbers import check_prime, exponent_of, is_whole, prime_power
from threeshapes.shapes import check_shape
from threeshapes.tables import (
    check_table, cut_table, determinant_of, flipped_table, identity_table, is_invertible, table_modulo, times_table,
)

MOST_MORE = 400


class Turned:
    """What turn_table returns: left times the table times right is diagonal, modulo the modulus."""

    def __init__(self, left, shape, right, modulus):
        self.left = left
        self.shape = shape
        self.right = right
        self.modulus = modulus


def least_exponent(prime, table, many):
    """Return the least exponent among the determinants of all cut-outs of size many, or None."""
    check_prime(prime)
    table = check_table(table, "long")
    if not is_whole(many, 1, len(table)):
        raise BadMany(many)
    exponents = [exponent_of(prime, number) for number in _determinants(table, many) if number != 0]
    return min(exponents, default=None)


def _determinants(table, many):
    """Return the determinants of all cut-outs of size many."""
    found = []
    for rows in combinations(range(len(table)), many):
        for columns in combinations(range(len(table[0])), many):
            found.append(determinant_of(cut_table(table, rows, columns)))
    return found


def shape_of(prime, table):
    """Return the shape of the table at the prime, or raise Flat."""
    return turn_table(prime, table).shape


def turn_table(prime, table, more=0):
    """Bring the table to its diagonal and return a Turned."""
    check_prime(prime)
    table = check_table(table, "long")
    return turned_modulo(prime, table, prime_power(prime, _exponent_of_modulus(prime, table, more)))


def turned_modulo(prime, table, modulus):
    """Return a Turned for this modulus, a power of the prime with an exponent above the sum of the table's shape.

    Nothing is checked.
    """
    left = identity_table(len(table))
    middle = table_modulo(table, modulus)
    # The columns of right are kept as rows, so that steps on columns are steps on rows.
    right = identity_table(len(table[0]))
    parts = []
    for at in range(len(table) - 1, -1, -1):
        part, left, middle, right = _turned_once(prime, left, middle, right, at, modulus)
        parts.append(part)
    return Turned(_rows_of(left), tuple(parts[::-1]), flipped_table(right), modulus)


def _rows_of(table):
    return tuple([tuple(row) for row in table])


def _exponent_of_modulus(prime, table, more):
    """Return the exponent of the modulus that turn_table takes, or raise BadMore or Flat."""
    if not is_whole(more, 0, MOST_MORE):
        raise BadMore(more)
    size = len(table)
    rows = list(range(size))
    for columns in combinations(range(len(table[0])), size):
        number = determinant_of(cut_table(table, rows, columns))
        if number != 0:
            return 1 + exponent_of(prime, number) + more
    raise Flat()


def _turned_once(prime, left, middle, right, at, modulus):
    """Do one step: bring a power of the prime to this place of the diagonal; return its exponent and the new tables.

    The rows ahead get noughts in this column. Row number at itself is not cleared in middle, for no later step asks it.
    """
    part, row, column = _least_place(prime, middle, at)
    left = _swapped(left, row, at)
    middle = [_swapped(line, column, at) for line in _swapped(middle, row, at)]
    right = _swapped(right, column, at)
    power = prime_power(prime, part)
    unit = _inverse_number(middle[at][at] // power, modulus)
    left[at] = _multiplied(left[at], unit, modulus)
    middle[at] = _multiplied(middle[at], unit, modulus)
    for other in range(at):
        times = middle[other][at] // power
        left[other] = _lessened(left[other], left[at], times, modulus)
        middle[other] = _lessened(middle[other], middle[at], times, modulus)
    for other in range(len(right)):
        if other != at:
            right[other] = _lessened(right[other], right[at], middle[at][other] // power, modulus)
    return part, left, middle, right


def _least_place(prime, middle, last):
    """Return the least exponent of an entry in the rows up to the last one, and its row and column."""
    # An entry with the least exponent divides all others, so one step clears its row and column.
    return min([
        (exponent_of(prime, number), row, column)
        for row, line in enumerate(middle[:last + 1])
        for column, number in enumerate(line)
        if number != 0
    ])


def _swapped(things, one, other):
    swapped = list(things)
    swapped[one] = things[other]
    swapped[other] = things[one]
    return swapped


def _multiplied(row, times, modulus):
    return [number * times % modulus for number in row]


def _lessened(row, taken, times, modulus):
    """Return the row less the taken row taken so many times."""
    return [(number - times * less) % modulus for number, less in zip(row, taken)]


def _inverse_number(number, modulus):
    """Return the inverse of a number that has no divisor but 1 together with the modulus."""
    rest = number % modulus
    coming = modulus
    times = 1
    coming_times = 0
    # At each step the rest is the number taken so many times, modulo the modulus.
    while coming != 0:
        fits = rest // coming
        rest, coming = coming, rest - fits * coming
        times, coming_times = coming_times, times - fits * coming_times
    return times % modulus


def turned_fault(prime, table, turned, more=0):
    """Return None if the Turned is right for the table, otherwise the first word that applies."""
    check_prime(prime)
    table = check_table(table, "long")
    exponent = _exponent_of_modulus(prime, table, more)
    modulus = prime_power(prime, exponent)
    if not is_whole(turned.modulus) or turned.modulus != modulus:
        return "modulus"
    if not _is_shape(turned.shape, len(table)):
        return "shape"
    if not is_turning(prime, turned.left, len(table)):
        return "left"
    if not is_turning(prime, turned.right, len(table[0])):
        return "right"
    product = times_table(times_table(turned.left, table), turned.right)
    if table_modulo(product, modulus) != _long_diagonal(prime, turned.shape, len(table[0]), exponent):
        return "product"
    return None


def _is_shape(thing, length):
    try:
        check_shape(thing, length)
    except BadShape:
        return False
    return True


def is_turning(prime, thing, size):
    """Tell whether thing is an invertible table with so many rows and columns."""
    try:
        table = check_table(thing)
    except BadTable:
        return False
    return len(table) == size and len(table[0]) == size and is_invertible(prime, table)


def _long_diagonal(prime, shape, wide, exponent):
    """Return the table with the powers of the prime on its diagonal, modulo the power with this exponent."""
    # A great part is not multiplied out: it may be of any size.
    powers = [prime_power(prime, part) if part < exponent else 0 for part in shape]
    return tuple([
        tuple([power if column == row else 0 for column in range(wide)])
        for row, power in enumerate(powers)
    ])


def inverse_modulo(prime, table, modulus):
    """Return the inverse of the table modulo a power of the prime, with entries from 0 to modulus - 1."""
    check_prime(prime)
    table = check_table(table)
    size = len(table)
    if len(table[0]) != size:
        raise BadTable("square")
    if not is_invertible(prime, table):
        raise NotInvertible()
    rows = [list(row) for row in table_modulo(table, modulus)]
    inverse = [list(row) for row in identity_table(size)]
    for at in range(size):
        # A row with a number that the prime does not divide is there, for the table is invertible.
        found = [row for row in range(at, size) if rows[row][at] % prime != 0][0]
        rows = _swapped(rows, found, at)
        inverse = _swapped(inverse, found, at)
        unit = _inverse_number(rows[at][at], modulus)
        rows[at] = _multiplied(rows[at], unit, modulus)
        inverse[at] = _multiplied(inverse[at], unit, modulus)
        for other in range(size):
            if other != at:
                times = rows[other][at]
                rows[other] = _lessened(rows[other], rows[at], times, modulus)
                inverse[other] = _lessened(inverse[other], inverse[at], times, modulus)
    return _rows_of(inverse)
