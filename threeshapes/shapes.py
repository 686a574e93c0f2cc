"""Shapes, which may have noughts, and kinds, which have none."""

from threeshapes.errors import BadKind, BadShape
from threeshapes.numbers import is_sequence, is_whole


def check_shape(thing, length=None, most=4):
    """Return the shape as a tuple, or raise BadShape."""
    if not is_sequence(thing) or not 1 <= len(thing) <= most:
        raise BadShape("many")
    if length is not None and len(thing) != length:
        raise BadShape("many")
    if not all([is_whole(part, 0) for part in thing]):
        raise BadShape("number")
    if not _is_falling(thing):
        raise BadShape("falling")
    return tuple(thing)


def check_alike_shapes(things, most):
    """Return these things as a tuple of shapes of one length, or raise BadShape."""
    shapes = tuple([check_shape(thing, None, most) for thing in things])
    if not all([len(shape) == len(shapes[0]) for shape in shapes]):
        raise BadShape("many")
    return shapes


def check_kind(thing, most=24):
    """Return the kind as a tuple, or raise BadKind."""
    if not is_sequence(thing) or len(thing) > most:
        raise BadKind("many")
    if not all([is_whole(part, 1) for part in thing]):
        raise BadKind("number")
    if not _is_falling(thing):
        raise BadKind("falling")
    return tuple(thing)


def _is_falling(parts):
    return all([later <= part for part, later in zip(parts, parts[1:])])


def sum_of_shape(shape):
    """Return the sum of the parts."""
    return sum(shape)


def weight_of(shape):
    """Return the sum of the parts, each taken as often as there are parts ahead of it."""
    return sum([at * part for at, part in enumerate(shape)])


def kind_of_shape(shape):
    """Return the shape without its noughts."""
    return tuple([part for part in shape if part != 0])


def shape_of_kind(kind, length):
    """Return the kind with noughts behind it, up to the length, or raise BadShape."""
    if len(kind) > length:
        raise BadShape("many")
    return tuple(kind) + (0,) * (length - len(kind))


def is_above(one, other):
    """Tell whether both have one sum and the first parts of one never sum up to less."""
    length = max(len(one), len(other))
    ahead = 0
    for part, less in zip(shape_of_kind(one, length), shape_of_kind(other, length)):
        ahead = ahead + part - less
        if ahead < 0:
            return False
    return ahead == 0


def turned_about(shape, length=None):
    """Return the shape whose part j, from 1 on, tells how many parts are j or more."""
    first = shape[0] if len(shape) > 0 else 0
    least = max(first, 1)
    if length is None:
        length = least
    if length < least:
        raise BadShape("many")
    return tuple([len([part for part in shape if part >= number]) for number in range(1, length + 1)])
