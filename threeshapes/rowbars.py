"""Row bars: the inequalities of sums that every product of a row of factors keeps."""

from itertools import combinations

from threeshapes.productshapes import product_shapes
from threeshapes.rowsoffactors import check_row
from threeshapes.triples import places_shape


class BrokenRow:
    """What is broken: the sum, or the row bar of places for each factor and sums, and by how much."""

    def __init__(self, what, places, sums, over):
        self.what = what
        self.places = places
        self.sums = sums
        self.over = over


def row_bar(factors, after):
    """Return the first thing that is broken, or None if after is a product shape of the row."""
    factors, after = check_row(factors, after)
    over = sum(after) - sum([sum(factor) for factor in factors])
    if over != 0:
        return BrokenRow("sum", (), (), over)
    for size in range(1, len(after)):
        broken = _broken_of_size(factors, after, size)
        if broken is not None:
            return broken
    return None


def _broken_of_size(factors, after, size):
    """Return the first row bar with so many places that is broken, or None."""
    all_places = list(combinations(range(1, len(after) + 1), size))
    for places, shapes in _rows_of_places(all_places, len(factors)):
        most = sum([_sum_over(factor, own) for factor, own in zip(factors, places)])
        for sums in all_places:
            over = _sum_over(after, sums) - most
            if over > 0 and places_shape(sums) in shapes:
                return BrokenRow("bar", places, sums, over)
    return None


def _sum_over(shape, places):
    """Return the sum of the parts with these places, counted from 1."""
    return sum([shape[place - 1] for place in places])


def _rows_of_places(all_places, many):
    """Return the rows of so many places, ascending, with the product shapes of their shapes that places have.

    Rows without such a product shape are left out: there is no row bar with them, nor with a row that they begin.
    """
    # No part of the shape of a product is less than the same part ahead, so what is left out here comes back nowhere.
    known = {places_shape(places): True for places in all_places}
    products = {}
    for one in known:
        for other in known:
            products[(one, other)] = [shape for shape in product_shapes(one, other) if shape in known]
    rows = [((places,), [places_shape(places)]) for places in all_places]
    for _ in range(many - 1):
        rows = _longer_rows(all_places, rows, products)
    return rows


def _longer_rows(all_places, rows, products):
    """Return, ascending, the rows with one more item of places, each with the product shapes that places have."""
    longer = []
    for row, shapes in rows:
        for places in all_places:
            factor = places_shape(places)
            reached = sorted(set([later for shape in shapes for later in products[(shape, factor)]]))
            if reached:
                longer.append(((*row, places), reached))
    return longer
