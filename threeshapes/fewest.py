"""How few factors of allowed shapes have a given product shape."""

from threeshapes.errors import Idle, TooMany, Unreached
from threeshapes.productshapes import product_shapes
from threeshapes.rowsoffactors import check_shapes_of_row
from threeshapes.shapes import check_shape

MOST_ALLOWED = 6
MOST_SUM = 12


class Fewest:
    """The least number of factors, and the first row of their indexes, nowhere falling."""

    def __init__(self, number, row):
        self.number = number
        self.row = row


def fewest_factors(allowed, after):
    """Return the least number of allowed factors that have after among their product shapes, or raise Unreached."""
    allowed = check_shapes_of_row(allowed, MOST_ALLOWED)
    after = check_shape(after, len(allowed[0]))
    for index, shape in enumerate(allowed):
        if sum(shape) == 0:
            raise Idle(index)
    if sum(after) > MOST_SUM:
        raise TooMany(MOST_SUM)
    # The rows of one length, ascending, each with the product shapes from which after can still be reached.
    rows = [((), [(0,) * len(after)])]
    products = {}
    while rows:
        for row, shapes in rows:
            if after in shapes:
                return Fewest(len(row), row)
        rows = _longer_rows(allowed, after, rows, products)
    raise Unreached()


def _longer_rows(allowed, after, rows, products):
    """Return, ascending, the rows with one more index, none below the last one, that have shapes within after."""
    # The least row takes no index of a shape that stands ahead of it already.
    indexes = [index for index, factor in enumerate(allowed) if factor not in allowed[:index]]
    longer = []
    for row, shapes in rows:
        for index in indexes:
            if not row or index >= row[-1]:
                reached = _reached_within(shapes, allowed[index], after, products)
                if reached:
                    longer.append(((*row, index), reached))
    return longer


def _reached_within(shapes, factor, after, products):
    """Return all product shapes of one of the shapes and the factor that are nowhere above after.

    No part of a product shape is below the same part of a factor, so none of the others leads to after. The dict of
    products keeps what is found, for many rows come to the same shapes.
    """
    found = {}
    for shape in shapes:
        if (shape, factor) not in products:
            products[(shape, factor)] = _products_within(shape, factor, after)
        for later in products[(shape, factor)]:
            found[later] = True
    return sorted(found)


def _products_within(shape, factor, after):
    # Asked ahead, because the parts of the factor may be of any size.
    if sum(shape) + sum(factor) > sum(after):
        return []
    return [later for later in product_shapes(shape, factor) if _is_within(later, after)]


def _is_within(shape, after):
    return all([part <= most for part, most in zip(shape, after)])
