"""Following: tables that, behind or ahead of a given table, make a filling come true."""

from threeshapes.errors import TooLong, WrongShape
from threeshapes.making import letter_tables
from threeshapes.numbers import check_prime
from threeshapes.tables import check_table, flipped_table, table_modulo, times_table
from threeshapes.turning import shape_of, turn_table

MOST_SUM = 400


def following_tables(prime, table, filling):
    """Return a table for each letter: the table times the first of them has the shape of that place in the chain."""
    turned = _turned_for(prime, table, filling)
    first, *others = letter_tables(prime, filling)
    return (table_modulo(times_table(turned.right, first), turned.modulus), *others)


def _turned_for(prime, table, filling):
    """Return the Turned of the table for the modulus that the filling needs, or raise WrongShape or TooLong."""
    check_prime(prime)
    table = check_table(table, "square")
    if shape_of(prime, table) != filling.before:
        raise WrongShape()
    total = sum(filling.content)
    if total > MOST_SUM:
        raise TooLong()
    # The modulus has one exponent more than the sum of after, so what is left out of it changes no shape.
    return turn_table(prime, table, total)


def following_table(prime, table, filling):
    """Return a table of the shape content whose strand filling behind the table is the given one."""
    turned = _turned_for(prime, table, filling)
    product = turned.right
    for one in letter_tables(prime, filling):
        product = table_modulo(times_table(product, one), turned.modulus)
    return product


def ahead_table(prime, table, filling):
    """Return a table of the shape content whose product, ahead of the table, has the shape after."""
    check_prime(prime)
    return flipped_table(following_table(prime, flipped_table(check_table(table, "square")), filling))
