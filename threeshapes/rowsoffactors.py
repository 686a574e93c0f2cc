"""Rows of factors: the shapes that products of up to five tables can have, and the ways to them."""

from threeshapes.errors import BadFactors, BadShape, NoWay, TooMany
from threeshapes.listing import count_fillings
from threeshapes.numbers import is_sequence
from threeshapes.productshapes import product_shapes
from threeshapes.shapes import check_shape

MOST_FACTORS = 5
MOST_SUM = 24


def check_factors(factors):
    """Return the row of factors as a tuple of shapes, or raise BadFactors."""
    return check_shapes_of_row(factors, MOST_FACTORS)


def check_shapes_of_row(things, most):
    """Return 1 to most things as a tuple of shapes of one length, or raise BadFactors."""
    if not is_sequence(things) or not 1 <= len(things) <= most:
        raise BadFactors("many", 0)
    shapes = []
    for index, thing in enumerate(things):
        try:
            shape = check_shape(thing)
        except BadShape:
            raise BadFactors("shape", index) from None
        if shapes and len(shape) != len(shapes[0]):
            raise BadFactors("length", index)
        shapes.append(shape)
    return tuple(shapes)


def check_total(factors):
    """Raise TooMany if the sums of all factors together are too great."""
    if sum([sum(factor) for factor in factors]) > MOST_SUM:
        raise TooMany(MOST_SUM)


def check_row(factors, after):
    """Return the factors and after as tuples, or raise BadFactors, BadShape or TooMany."""
    factors = check_factors(factors)
    after = check_shape(after, len(factors[0]))
    check_total(factors)
    return factors, after


def all_beginnings(factors, after):
    """Yield the beginnings of all ways that come to after, ascending."""
    factors, after = check_row(factors, after)
    steps = _steps_to(factors, after)
    way = (factors[0],)
    if steps or way[0] == after:
        for beginnings in _ways_on(steps, way):
            yield beginnings


def _ways_on(steps, way):
    """Yield all ways to the end of the steps that begin with this one, ascending."""
    if len(way) > len(steps):
        yield way
        return
    for shape in steps[len(way) - 1].get(way[-1], []):
        longer = (*way, shape)
        for beginnings in _ways_on(steps, longer):
            yield beginnings


def _steps_ahead(factors):
    """Return for each factor behind the first a dict: for each shape that comes before it the product shapes."""
    steps = []
    shapes = [factors[0]]
    for factor in factors[1:]:
        step = {shape: product_shapes(shape, factor) for shape in shapes}
        steps.append(step)
        shapes = _shapes_behind(step)
    return steps


def _shapes_behind(step):
    """Return all shapes to which this step leads, ascending."""
    return sorted(set([later for shapes in step.values() for later in shapes]))


def _steps_to(factors, after):
    """Return the steps ahead without those from which no way comes to after."""
    steps = []
    wanted = {after: True}
    for step in _steps_ahead(factors)[::-1]:
        fitting = {shape: [later for later in shapes if later in wanted] for shape, shapes in step.items()}
        wanted = {shape: shapes for shape, shapes in fitting.items() if shapes}
        steps.append(wanted)
    return steps[::-1]


def row_way(factors, after):
    """Return the first beginnings of a way that comes to after, or raise NoWay."""
    for beginnings in all_beginnings(factors, after):
        return beginnings
    raise NoWay()


def shapes_of_row(factors):
    """Return all product shapes of the row, ascending."""
    factors = check_factors(factors)
    check_total(factors)
    return _all_shapes(factors)


def _all_shapes(factors):
    steps = _steps_ahead(factors)
    return tuple(_shapes_behind(steps[-1])) if steps else factors


def is_row_shape(factors, after):
    """Tell whether after is a product shape of the row."""
    factors, after = check_row(factors, after)
    return after in _all_shapes(factors)


def ways_of_row(factors, after):
    """Return the number of chains of fillings, one for each factor behind the first, that come to after."""
    factors, after = check_row(factors, after)
    ways = {factors[0]: 1}
    for factor, step in zip(factors[1:], _steps_to(factors, after)):
        more = {}
        for shape, shapes in step.items():
            for later in shapes:
                fillings = count_fillings(shape, factor, later)
                more[later] = more.get(later, 0) + ways[shape] * fillings
        ways = more
    return ways.get(after, 0)
