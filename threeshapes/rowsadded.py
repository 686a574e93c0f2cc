"""Rows struck out of tables, rows added to them, and the shapes that come of it."""

from threeshapes.errors import BadMany, BadRow, BadShape, BadTable, Flat, FullTable, NotWoven
from threeshapes.numbers import check_prime, is_sequence, is_whole, prime_power
from threeshapes.shapes import check_shape
from threeshapes.tables import check_table, table_modulo, times_table
from threeshapes.turning import inverse_modulo, shape_of, turned_modulo
from threeshapes.woven import unwoven_place

MOST_ROWS = 4


def struck_row(table, row):
    """Return the table without this row, or raise BadRow."""
    table = check_table(table)
    if len(table) == 1 or not is_whole(row, 0, len(table) - 1):
        raise BadRow(row)
    return table[:row] + table[row + 1:]


def first_rows(table, many):
    """Return the first rows of the table as a table, or raise BadMany."""
    table = check_table(table)
    if not is_whole(many, 1, len(table)):
        raise BadMany(many)
    return table[:many]


def row_chain(prime, table):
    """Return the shapes of the first 1, 2, .. rows of the table, or raise Flat."""
    check_prime(prime)
    table = check_table(table, "long")
    return tuple([shape_of(prime, first_rows(table, many)) for many in range(1, len(table) + 1)])


def added_row(prime, table, shape):
    """Return a row with which, put behind the table, it has this shape of one part more."""
    table, shape = _check_added(prime, table, shape)
    return _row_behind(prime, table, shape)


def _check_added(prime, table, shape):
    """Return the table and the shape, or raise what added_row raises."""
    check_prime(prime)
    table = check_table(table, "long")
    many = len(table)
    if many == MOST_ROWS or many == len(table[0]):
        raise FullTable()
    shape = check_shape(shape, many + 1)
    _check_woven(shape, shape_of(prime, table))
    return table, shape


def _check_woven(shape, part):
    place = unwoven_place(shape, part)
    if place is not None:
        raise NotWoven(len(part), place)


def _row_behind(prime, table, shape):
    """Return the row that added_row makes; nothing is checked."""
    # Nothing modulo this power changes the wanted shape.
    modulus = prime_power(prime, 1 + sum(shape))
    turned = turned_modulo(prime, table, modulus)
    powers = [prime_power(prime, exponent) for exponent in _exponents_of_row(shape, turned.shape)]
    # On the diagonal the greatest part comes first, and the first exponents belong to the least parts.
    behind = [0] * (len(table[0]) - len(powers))
    row = [*powers[:-1][::-1], powers[-1], *behind]
    back = inverse_modulo(prime, turned.right, modulus)
    return table_modulo(times_table([row], back), modulus)[0]


def _exponents_of_row(shape, part):
    """Return the exponents f_1, f_2, .. of [9.9] for the wanted shape and that of the table."""
    exponents = []
    total = 0
    for more, less in zip(shape[::-1], (*part[::-1], 0)):
        total = total + more
        exponents.append(total)
        total = total - less
    return exponents


def extended_table(prime, table, shape):
    """Return the table with rows put behind it, so that it has this shape."""
    table, shape = _check_extended(prime, table, shape)
    many = len(shape)
    while len(table) < many:
        between = _shape_between(shape, shape_of(prime, table))
        table = (*table, _row_behind(prime, table, between))
    return table


def _check_extended(prime, table, shape):
    """Return the table and the shape, or raise what extended_table raises."""
    check_prime(prime)
    table = check_table(table, "long")
    shape = check_shape(shape)
    if not len(table) <= len(shape) <= len(table[0]):
        raise BadShape("many")
    _check_woven(shape, shape_of(prime, table))
    return table, shape


def _shape_between(shape, part):
    """Return a shape of one part more than part that is woven into shape, and into which part is woven."""
    lows = shape[len(shape) - len(part) - 1:]
    return tuple([max(own, low) for own, low in zip(part, lows)]) + lows[-1:]


def table_with_rows(prime, shapes):
    """Return a square table with just this row chain."""
    shapes = _check_shapes(prime, shapes)
    first = (prime_power(prime, shapes[0][0]),) + (0,) * (len(shapes) - 1)
    table = (first,)
    for shape in shapes[1:]:
        table = (*table, _row_behind(prime, table, shape))
    return table


def _check_shapes(prime, shapes):
    """Return the row chain, or raise what table_with_rows raises."""
    check_prime(prime)
    shapes = check_chain_shapes(shapes)
    check_chain_woven(shapes)
    return shapes


def check_chain_shapes(shapes, many=None):
    """Return many shapes (1 to 4, if it is None) of 1, 2, .. parts as a tuple, or raise BadShape."""
    if not is_sequence(shapes) or not 1 <= len(shapes) <= MOST_ROWS:
        raise BadShape("many")
    if many is not None and len(shapes) != many:
        raise BadShape("many")
    return tuple([check_shape(shape, length) for length, shape in enumerate(shapes, 1)])


def check_chain_woven(shapes):
    """Raise NotWoven for the first shape that is not woven into the next one."""
    for part, shape in zip(shapes, shapes[1:]):
        _check_woven(shape, part)


def added_fault(prime, table, shape, row):
    """Return None if the row is right behind the table, otherwise the first word that applies."""
    table, shape = _check_added(prime, table, shape)
    if not is_sequence(row) or len(row) != len(table[0]) or not all([is_whole(number) for number in row]):
        return "row"
    return None if _has_shape(prime, (*table, tuple(row)), shape) else "shape"


def _has_shape(prime, table, shape):
    """Tell whether a long table is not flat and has this shape."""
    try:
        return shape_of(prime, table) == shape
    except Flat:
        return False


def extended_fault(prime, table, shape, longer):
    """Return None if longer is right for the table and the shape, otherwise the first word that applies."""
    table, shape = _check_extended(prime, table, shape)
    try:
        longer = check_table(longer)
    except BadTable:
        return "table"
    if len(longer) != len(shape) or len(longer[0]) != len(table[0]):
        return "table"
    if longer[:len(table)] != table:
        return "rows"
    return None if _has_shape(prime, longer, shape) else "shape"


def rows_fault(prime, shapes, table):
    """Return None if the table has just this row chain, otherwise the first word that applies."""
    shapes = _check_shapes(prime, shapes)
    try:
        table = check_table(table, "square")
    except BadTable:
        return "table"
    if len(table) != len(shapes):
        return "table"
    return None if has_row_chain(prime, table, shapes) else "chain"


def has_row_chain(prime, table, shapes):
    """Tell whether a long table is not flat and has just this row chain."""
    try:
        return row_chain(prime, table) == shapes
    except Flat:
        return False
