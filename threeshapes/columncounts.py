"""Counts, as polys, of rooms within by columns, and of maps between rooms."""

from threeshapes.errors import BadMany, TooMany
from threeshapes.numbers import is_whole
from threeshapes.polys import p_count, poly_minus, poly_times, power_poly
from threeshapes.shapes import check_kind, kind_of_shape, shape_of_kind, turned_about, weight_of

MOST_SUM = 12


def columns_of(kind):
    """Return the kind turned about."""
    kind = check_kind(kind)
    _check_sums(kind)
    return _columns(kind)


def _columns(kind):
    """Return the kind turned about; nothing is checked."""
    return kind_of_shape(turned_about(kind))


def _check_sums(*kinds):
    if any([sum(kind) > MOST_SUM for kind in kinds]):
        raise TooMany(MOST_SUM)


def kinds_of_sum(total):
    """Return all kinds with this sum, ascending."""
    if not is_whole(total, 0):
        raise BadMany(total)
    if total > MOST_SUM:
        raise TooMany(MOST_SUM)
    return tuple(_kinds_to(total, total))


def _kinds_to(total, most):
    """Return all kinds with this sum and no part above most, ascending."""
    if total == 0:
        return [()]
    found = []
    for first in range(1, min(total, most) + 1):
        for rest in _kinds_to(total - first, first):
            found.append((first, *rest))
    return found


def _alike_columns(one, other):
    """Return the columns of two kinds with noughts behind them, one nought at least, both as long."""
    one = _columns(one)
    other = _columns(other)
    long = max(len(one), len(other)) + 1
    return shape_of_kind(one, long), shape_of_kind(other, long)


def column_poly(rest, ones, kind):
    """Return the poly of the number of rooms within that have so many ones as kind, and this rest kind."""
    rest = check_kind(rest)
    if not is_whole(ones, 0):
        raise BadMany(ones)
    kind = check_kind(kind)
    _check_sums(rest, kind)
    rests, columns = _alike_columns(rest, kind)
    steps = [column - later for column, later in zip(columns, columns[1:])]
    taken = [column - less for column, less in zip(columns, rests)][:len(steps)]
    if sum(taken) != ones or not all([0 <= one <= step for one, step in zip(taken, steps)]):
        return ()
    lost = ones * (ones - 1) // 2 + sum([one * (step - one) for one, step in zip(taken, steps)])
    found = power_poly(weight_of(kind) - weight_of(rest) - lost)
    for one, step in zip(taken, steps):
        found = poly_times(found, p_count(step, one))
    return found


def within_poly(part, kind):
    """Return the poly of the number of all rooms within of the kind "part" in a room of the kind."""
    part = check_kind(part)
    kind = check_kind(kind)
    _check_sums(part, kind)
    parts, columns = _alike_columns(part, kind)
    if not all([less <= column for less, column in zip(parts, columns)]):
        return ()
    found = (1,)
    for column, less, later in zip(columns, parts, parts[1:]):
        power = power_poly(later * (column - less))
        found = poly_times(poly_times(found, power), p_count(column - later, less - later))
    return found


def map_poly(one, other):
    """Return the poly of the number of all maps from a room of the one kind to one of the other."""
    one = check_kind(one)
    other = check_kind(other)
    _check_sums(one, other)
    return power_poly(sum([column * more for column, more in zip(_columns(one), _columns(other))]))


def own_map_poly(kind):
    """Return the poly of the number of own maps of a room of the kind."""
    kind = check_kind(kind)
    _check_sums(kind)
    exponent = sum([column * column for column in _columns(kind)])
    found = (1,)
    for part in sorted(set(kind)):
        many = kind.count(part)
        exponent = exponent - many * (many + 1) // 2
        for power in range(1, many + 1):
            found = poly_times(found, poly_minus(power_poly(power), (1,)))
    return poly_times(power_poly(exponent), found)
