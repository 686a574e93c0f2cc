"""Tables that turn the rows of a table so that it has a given row chain."""

from threeshapes.errors import WrongShape
from threeshapes.numbers import check_prime, prime_power
from threeshapes.rowsadded import check_chain_shapes, check_chain_woven, has_row_chain, table_with_rows
from threeshapes.tables import check_table, table_modulo, times_table
from threeshapes.turning import inverse_modulo, is_turning, shape_of, turned_modulo


def left_for_rows(prime, table, shapes):
    """Return an invertible table that, ahead of the given one, makes its row chain these shapes."""
    table, shapes = _check_left(prime, table, shapes)
    # Nothing modulo this power changes the shapes.
    modulus = prime_power(prime, 1 + sum(shapes[-1]))
    own = turned_modulo(prime, table, modulus)
    wanted = turned_modulo(prime, table_with_rows(prime, shapes), modulus)
    # Both are turned to one diagonal, so what turns the one and then, back, the other leads to the wanted rows; what
    # stands behind the table changes no shape of first rows.
    back = inverse_modulo(prime, wanted.left, modulus)
    return table_modulo(times_table(back, own.left), modulus)


def _check_left(prime, table, shapes):
    """Return the table and the row chain, or raise what left_for_rows raises."""
    check_prime(prime)
    table = check_table(table, "long")
    shapes = check_chain_shapes(shapes, len(table))
    shape = shape_of(prime, table)
    check_chain_woven(shapes)
    if shapes[-1] != shape:
        raise WrongShape()
    return table, shapes


def left_fault(prime, table, shapes, left):
    """Return None if left is right for the table and the row chain, otherwise the first word that applies."""
    table, shapes = _check_left(prime, table, shapes)
    if not is_turning(prime, left, len(table)):
        return "left"
    return None if has_row_chain(prime, times_table(left, table), shapes) else "chain"
