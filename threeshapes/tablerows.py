"""Tables of a row: tables of given shapes whose products have given shapes, and back."""

from threeshapes.errors import BadBeginnings, BadPlace, BadShape, BadTable, BadTables, Flat, WrongShape
from threeshapes.following import ahead_table, following_table
from threeshapes.listing import first_filling, is_product
from threeshapes.making import diagonal_table
from threeshapes.numbers import check_prime, is_sequence, is_whole
from threeshapes.rowsoffactors import MOST_FACTORS, check_factors, check_row, check_total, row_way
from threeshapes.shapes import check_shape
from threeshapes.tables import check_table, identity_table, times_table
from threeshapes.turning import shape_of


class RowRead:
    """The shapes of the tables of a row, and those of the products of the first of them."""

    def __init__(self, factors, beginnings):
        self.factors = factors
        self.beginnings = beginnings


def tables_of_beginnings(prime, factors, beginnings):
    """Return tables of the shapes of the factors whose first products have the shapes of the beginnings."""
    check_prime(prime)
    factors, beginnings = _check_beginnings(factors, beginnings)
    return _tables_of_way(prime, factors, beginnings)


def _check_beginnings(factors, beginnings):
    """Return both as tuples of shapes, or raise BadFactors, TooMany or BadBeginnings."""
    factors = check_factors(factors)
    check_total(factors)
    if not is_sequence(beginnings) or len(beginnings) != len(factors):
        raise BadBeginnings(0)
    shapes = []
    # Behind noughts the only product shape is the factor itself, which is what the first beginning has to be.
    before = (0,) * len(factors[0])
    for index, thing in enumerate(beginnings):
        try:
            shape = check_shape(thing, len(before))
        except BadShape:
            raise BadBeginnings(index) from None
        if not is_product(before, factors[index], shape):
            raise BadBeginnings(index)
        shapes.append(shape)
        before = shape
    return factors, tuple(shapes)


def _tables_of_way(prime, factors, beginnings):
    """Return tables for the beginnings of a way; nothing is checked."""
    product = diagonal_table(prime, factors[0])
    tables = [product]
    for factor, before, after in zip(factors[1:], beginnings, beginnings[1:]):
        table = following_table(prime, product, first_filling(before, factor, after))
        product = times_table(product, table)
        tables.append(table)
    return tuple(tables)


def made_row(prime, factors, after):
    """Return tables of the shapes of the factors whose product has the shape after, or raise NoWay."""
    check_prime(prime)
    factors, after = check_row(factors, after)
    return _tables_of_way(prime, factors, row_way(factors, after))


def made_around(prime, factors, after, place, table):
    """Return tables of the shapes of the factors, the given one at its place, whose product has the shape after."""
    check_prime(prime)
    factors = check_factors(factors)
    after = check_shape(after, len(factors[0]))
    if not is_whole(place, 0, len(factors) - 1):
        raise BadPlace()
    table = check_table(table, "square")
    if shape_of(prime, table) != factors[place]:
        raise WrongShape()
    # In every order of the factors the product shapes are the same: here the given table comes first, then those
    # behind it are put on, then those ahead of it, from the nearest on.
    behind = len(factors) - 1 - place
    row = factors[place:] + factors[:place][::-1]
    beginnings = row_way(row, after)
    product = table
    tables = [table]
    for step in range(1, len(row)):
        filling = first_filling(beginnings[step - 1], row[step], beginnings[step])
        if step <= behind:
            next_table = following_table(prime, product, filling)
            product = times_table(product, next_table)
            tables.append(next_table)
        else:
            next_table = ahead_table(prime, product, filling)
            product = times_table(next_table, product)
            tables.insert(0, next_table)
    return tuple(tables)


def row_fault(prime, factors, beginnings, tables):
    """Return None if the tables are right for the beginnings, otherwise the first word that applies."""
    check_prime(prime)
    factors, beginnings = _check_beginnings(factors, beginnings)
    if not is_sequence(tables) or len(tables) != len(factors):
        return "many"
    product = identity_table(len(factors[0]))
    for table, factor, beginning in zip(tables, factors, beginnings):
        shape = _shape_or_none(prime, table)
        if shape is None or len(shape) != len(factor):
            return "table"
        if shape != factor:
            return "shape"
        product = times_table(product, table)
        if shape_of(prime, product) != beginning:
            return "product"
    return None


def _shape_or_none(prime, thing):
    """Return the shape of a square table, or None for a flat one and for every other thing."""
    try:
        return shape_of(prime, check_table(thing, "square"))
    except (BadTable, Flat):
        return None


def read_row(prime, tables):
    """Return the shapes of the tables and of the products of the first of them, or raise BadTables or Flat."""
    check_prime(prime)
    tables = _check_tables(tables)
    factors = [shape_of(prime, table) for table in tables]
    beginnings = []
    product = identity_table(len(tables[0]))
    for table in tables:
        product = times_table(product, table)
        beginnings.append(shape_of(prime, product))
    return RowRead(tuple(factors), tuple(beginnings))


def _check_tables(things):
    """Return the things as square tables of one size, or raise BadTables."""
    if not is_sequence(things) or not 1 <= len(things) <= MOST_FACTORS:
        raise BadTables(0)
    tables = []
    for index, thing in enumerate(things):
        try:
            table = check_table(thing, "square")
        except BadTable:
            raise BadTables(index) from None
        if tables and len(table) != len(tables[0]):
            raise BadTables(index)
        tables.append(table)
    return tables
