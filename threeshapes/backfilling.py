"""Reading: from two tables and their product back to fillings."""

from threeshapes.errors import Flat, TooLong, UnlikeSizes
from threeshapes.fillings import filling_of_chain
from threeshapes.making import diagonal_table
from threeshapes.numbers import check_prime, prime_power
from threeshapes.shapes import turned_about
from threeshapes.strands import filling_of_strands
from threeshapes.tables import beside_table, check_table, determinant_of, times_table
from threeshapes.turning import inverse_modulo, shape_of, turn_table

MOST_ROWS = 24


def back_chain(prime, one, other):
    """Return the shapes of the tables "prime to the power i times one, beside it one times other"."""
    one, other = _check_couple(prime, one, other)
    return _chain_of_couple(prime, one, other)


def _check_couple(prime, one, other):
    """Return two square tables of one size that are not flat, as tuples."""
    check_prime(prime)
    one = check_table(one, "square")
    other = check_table(other, "square")
    if len(one) != len(other):
        raise UnlikeSizes()
    if determinant_of(one) == 0 or determinant_of(other) == 0:
        raise Flat()
    return one, other


def _chain_of_couple(prime, one, other):
    """Return the back chain; nothing is checked."""
    product = times_table(one, other)
    shapes = []
    for exponent in range(shape_of(prime, other)[0] + 1):
        power = prime_power(prime, exponent)
        multiple = [[number * power for number in row] for row in one]
        # The order of the columns does not matter to the shape; the product ahead keeps the modulus small.
        shapes.append(shape_of(prime, beside_table(product, multiple)))
    return tuple(shapes)


def back_filling(prime, one, other):
    """Return the filling whose chain is the back chain, turned about."""
    one, other = _check_couple(prime, one, other)
    first = shape_of(prime, times_table(one, other))[0]
    if first > MOST_ROWS:
        raise TooLong()
    shapes = [turned_about(shape, max(first, 1)) for shape in _chain_of_couple(prime, one, other)]
    # A chain needs two shapes; the last one twice adds a letter that stands nowhere.
    return filling_of_chain(shapes if len(shapes) > 1 else shapes * 2)


def strand_shapes(prime, one, other):
    """Return the strand chain of the one filling that belongs to the two tables."""
    one, other = _check_couple(prime, one, other)
    turned = turn_table(prime, other)
    ahead = times_table(one, inverse_modulo(prime, turned.left, turned.modulus))
    shapes = []
    for less in range(turned.shape[0] + 1):
        rest = diagonal_table(prime, [max(part - less, 0) for part in turned.shape])
        shapes.append(shape_of(prime, times_table(ahead, rest)))
    return tuple(shapes)


def strand_filling(prime, one, other):
    """Return the filling, from the shape of one to that of the product, whose strand chain the two tables have."""
    shapes = strand_shapes(prime, one, other)
    strands = [_rows_that_differ(shape, later) for shape, later in zip(shapes, shapes[1:])]
    return filling_of_strands(shapes[-1], strands)


def _rows_that_differ(shape, later):
    return tuple([row for row, (part, less) in enumerate(zip(shape, later), 1) if part != less])
