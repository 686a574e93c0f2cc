"""Row chains: shapes of 1, 2, .. parts, each woven into the next one."""

from threeshapes.errors import BadRises
from threeshapes.numbers import is_sequence, is_whole
from threeshapes.shapes import check_shape
from threeshapes.woven import is_woven, woven_shapes


def all_row_chains(shape):
    """Yield all row chains of the shape, ascending."""
    shape = check_shape(shape)
    levels = _levels_of(shape)
    nothing = ()
    for chain in _chains_on(levels, nothing):
        yield chain


def _levels_of(shape):
    """Return for each number of parts the shapes that stand in row chains of the shape: all that are woven into it."""
    return [woven_shapes(shape, many) for many in range(1, len(shape) + 1)]


def _chains_on(levels, chain):
    """Yield all row chains through the levels that begin with this chain, ascending."""
    if len(chain) == len(levels):
        yield chain
        return
    for shape in levels[len(chain)]:
        if not chain or is_woven(shape, chain[-1]):
            longer = (*chain, shape)
            for whole in _chains_on(levels, longer):
                yield whole


def count_row_chains(shape):
    """Return how many row chains of the shape there are."""
    shape = check_shape(shape)
    above = 1
    below = 1
    for j in range(len(shape)):
        for i in range(j):
            above = above * (shape[i] - shape[j] + j - i)
            below = below * (j - i)
    return above // below


def check_rises(rises, many):
    """Return the rises as a tuple of so many whole numbers from 0, or raise BadRises."""
    if not is_sequence(rises) or len(rises) != many:
        raise BadRises()
    if not all([is_whole(rise, 0) for rise in rises]):
        raise BadRises()
    return tuple(rises)


def count_by_rises(shape, rises):
    """Return how many row chains of the shape have these rises."""
    shape = check_shape(shape)
    rises = check_rises(rises, len(shape))
    # How many chains end at each shape; the first shape can be begun in one way.
    counts = {(): 1}
    total = 0
    for rise, level in zip(rises, _levels_of(shape)):
        total = total + rise
        counts = {
            later: sum([many for begun, many in counts.items() if not begun or is_woven(later, begun)])
            for later in level
            if sum(later) == total
        }
    return counts.get(shape, 0)
