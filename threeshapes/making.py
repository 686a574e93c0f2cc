"""Making: from a filling to two tables and their product."""

from threeshapes.errors import BadTable, Flat, NoLetter, TooLong
from threeshapes.numbers import check_prime, is_whole, prime_power
from threeshapes.shapes import check_shape
from threeshapes.tables import check_table, diagonal_of, identity_table, times_table
from threeshapes.turning import shape_of

MOST_ROWS = 4


def diagonal_table(prime, shape):
    """Return the square table with the powers of the prime to the parts of the shape on its diagonal."""
    check_prime(prime)
    return diagonal_of([prime_power(prime, part) for part in check_shape(shape)])


def letter_table(prime, filling, letter):
    """Return the table of one letter of the filling, or raise NoLetter or TooLong."""
    check_prime(prime)
    if not is_whole(letter, 1, len(filling.before)):
        raise NoLetter(letter)
    _check_rows(filling)
    return _table_of_letter(prime, filling, letter - 1)


def _check_rows(filling):
    if len(filling.before) > MOST_ROWS:
        raise TooLong()


def _table_of_letter(prime, filling, at):
    """Return the table of the letter with this index, from 0."""
    size = len(filling.before)
    numbers = [1] * at + [prime_power(prime, number) for number in filling.counts[at]]
    rows = [list(row) for row in diagonal_of(numbers)]
    for row in range(at, size - 1):
        rows[row][row + 1] = 1
    return tuple([tuple(row) for row in rows])


def letter_tables(prime, filling):
    """Return the tables of all letters of a filling of at most 4 rows; nothing is checked."""
    return tuple([_table_of_letter(prime, filling, at) for at in range(len(filling.before))])


def made_chain(prime, filling):
    """Return the diagonal table of before and its products with the tables of the first letters."""
    check_prime(prime)
    _check_rows(filling)
    chain = [diagonal_table(prime, filling.before)]
    for table in letter_tables(prime, filling):
        chain.append(times_table(chain[-1], table))
    return tuple(chain)


def made_tables(prime, filling):
    """Return two tables of the shapes before and content whose product has the shape after."""
    check_prime(prime)
    _check_rows(filling)
    other = identity_table(len(filling.before))
    for table in letter_tables(prime, filling):
        other = times_table(other, table)
    return (diagonal_table(prime, filling.before), other)


def product_fault(prime, one, other, filling):
    """Return None if the tables and their product have the shapes of the filling, otherwise the first word."""
    check_prime(prime)
    if not _has_shape(prime, one, filling.before):
        return "one"
    if not _has_shape(prime, other, filling.content):
        return "other"
    if not _has_shape(prime, times_table(one, other), filling.after):
        return "product"
    return None


def _has_shape(prime, thing, shape):
    """Tell whether thing is a square table of this shape."""
    try:
        return shape_of(prime, check_table(thing, "square")) == shape
    except (BadTable, Flat):
        return False
