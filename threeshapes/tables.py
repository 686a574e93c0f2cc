"""Tables of whole numbers: their check, their products and their determinants."""

from threeshapes.errors import BadTable
from threeshapes.numbers import is_sequence, is_whole

MOST_ROWS = 8
MOST_SQUARE_ROWS = 4


def check_table(thing, sort="any"):
    """Return the table as a tuple of tuples, or raise BadTable; sort is "any", "long" or "square"."""
    if not _is_filled(thing):
        raise BadTable("rows")
    if not all([_is_filled(row) for row in thing]):
        raise BadTable("columns")
    many = len(thing)
    wide = len(thing[0])
    if not all([len(row) == wide for row in thing]):
        raise BadTable("columns")
    if not all([is_whole(number) for row in thing for number in row]):
        raise BadTable("number")
    if sort == "long" and (many > MOST_SQUARE_ROWS or wide < many):
        raise BadTable("long")
    if sort == "square" and (many > MOST_SQUARE_ROWS or wide != many):
        raise BadTable("square")
    return tuple([tuple(row) for row in thing])


def _is_filled(thing):
    return is_sequence(thing) and 1 <= len(thing) <= MOST_ROWS


def times_table(one, other):
    """Return the product of two tables that fit; nothing is checked."""
    columns = flipped_table(other)
    return tuple([tuple([_sum_of_products(row, column) for column in columns]) for row in one])


def _sum_of_products(row, column):
    return sum([number * times for number, times in zip(row, column)])


def identity_table(size):
    """Return the square table with ones on its diagonal and noughts elsewhere."""
    return diagonal_of([1] * size)


def diagonal_of(numbers):
    """Return the square table with these numbers on its diagonal and noughts elsewhere."""
    size = len(numbers)
    return tuple([
        tuple([number if column == row else 0 for column in range(size)])
        for row, number in enumerate(numbers)
    ])


def beside_table(one, other):
    """Return the table with the columns of other behind those of one."""
    return tuple([(*row, *more) for row, more in zip(one, other)])


def flipped_table(table):
    """Return the table with rows and columns exchanged."""
    return tuple(zip(*table))


def table_modulo(table, modulus):
    """Return the table with each entry from 0 to modulus - 1."""
    return tuple([tuple([number % modulus for number in row]) for row in table])


def cut_table(table, rows, columns):
    """Return the entries in the rows and columns with these indexes, in the order passed."""
    return tuple([tuple([table[row][column] for column in columns]) for row in rows])


def determinant_of(table):
    """Return the determinant of a square table of 1 to 4 rows; nothing is checked."""
    if len(table) == 1:
        return table[0][0]
    total = 0
    sign = 1
    for at, number in enumerate(table[0]):
        # A nought ahead saves the determinant behind it.
        if number != 0:
            rest = [tuple(row[:at]) + tuple(row[at + 1:]) for row in table[1:]]
            total = total + sign * number * determinant_of(rest)
        sign = -sign
    return total


def is_invertible(prime, table):
    """Tell whether the prime does not divide the determinant of a square table of 1 to 8 rows."""
    rows = table_modulo(table, prime)
    # Each step strikes a row and the first column; a column of noughts makes the determinant 0.
    while len(rows) > 0:
        starting = [row for row in rows if row[0] != 0]
        if not starting:
            return False
        pivot = starting[0]
        others = starting[1:] + [row for row in rows if row[0] == 0]
        rows = [_struck(row, pivot, prime) for row in others]
    return True


def _struck(row, pivot, prime):
    """Return the row without its first number, after the pivot has been taken from it to make that one nought."""
    # Both rows are multiplied: that needs no division, and a number from 1 to prime - 1 changes no rank.
    return [
        (number * pivot[0] - taken * row[0]) % prime
        for number, taken in zip(row[1:], pivot[1:])
    ]
