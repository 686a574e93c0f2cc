"""All fillings from one shape to another one with a given content."""

from threeshapes.errors import BadShape, NoFilling
from threeshapes.fillings import Filling
from threeshapes.shapes import check_shape, kind_of_shape

MOST_ROWS = 24


def all_fillings(before, content, after):
    """Yield all fillings with this before, content and after, in ascending order of their counts."""
    before, content, after = _check_shapes(before, content, after)
    for placed in _all_placed(before, content, after):
        yield _filling_of_placed(before, after, placed)


def count_fillings(before, content, after):
    """Return how many fillings there are."""
    before, content, after = _check_shapes(before, content, after)
    many = 0
    for _ in _all_placed(before, content, after):
        many = many + 1
    return many


def first_filling(before, content, after):
    """Return the first filling, or raise NoFilling."""
    before, content, after = _check_shapes(before, content, after)
    for placed in _all_placed(before, content, after):
        return _filling_of_placed(before, after, placed)
    raise NoFilling()


def is_product(before, content, after):
    """Tell whether there is a filling."""
    before, content, after = _check_shapes(before, content, after)
    for _ in _all_placed(before, content, after):
        return True
    return False


def _check_shapes(before, content, after):
    before = check_shape(before, None, MOST_ROWS)
    content = check_shape(content, None, MOST_ROWS)
    after = check_shape(after, None, MOST_ROWS)
    if len(before) != len(after):
        raise BadShape("many")
    return before, content, after


def _filling_of_placed(before, after, placed):
    """Return the filling in which the first letters stand as placed, and the letters behind them nowhere."""
    size = len(before)
    counts = [[more - less for more, less in zip(sums, [0] + sums)] for sums in placed]
    for at in range(len(placed), size):
        counts.append([0] * (size - at))
    return Filling(before, after, counts)


def _all_placed(before, content, after):
    """Yield for each filling, in ascending order, a list of sums for each letter that stands anywhere.

    The sums of a letter tell for each row, from that of its own number on, how often it stands in the rows up to this
    one. Their ascending order is that of the counts.
    """
    letters = len(kind_of_shape(content))
    if letters > len(before) or sum(before) + sum(content) != sum(after):
        return
    if letters == 0:
        if before == after:
            yield []
        return
    parts = content[:len(before)] + (0,) * (len(before) - len(content))
    bounds = [_bounds_behind(at, parts, after) for at in range(letters)]
    # One item for each letter that has been begun; the last of them is not yet among the placed ones.
    heights = [before]
    limits = [_limits_of_letter(0, before, [parts[0]] * len(before), parts, after, bounds[0])]
    placed = []
    sums = _least_sums(limits[0], [])
    while limits:
        if sums is None:
            heights.pop()
            limits.pop()
            if placed:
                sums = _next_sums(limits[-1], placed.pop())
        elif len(placed) == letters - 1:
            yield placed + [sums]
            sums = _next_sums(limits[-1], sums)
        else:
            heights.append(_grown_heights(heights[-1], len(placed), sums))
            placed.append(sums)
            at = len(placed)
            limits.append(_limits_of_letter(at, heights[-1], sums, parts, after, bounds[at]))
            sums = _least_sums(limits[-1], [])


def _grown_heights(height, at, sums):
    """Return the heights of the rows after the letter with this index is placed."""
    return height[:at] + tuple([part + more - less for part, more, less in zip(height[at:], sums, [0] + sums)])


def _bounds_behind(at, parts, after):
    """Return for each row, from that of the letter on, the least and the greatest height after this letter.

    They hold whatever is placed so far, and keep the search from ways without an end. The least one: by COLUMN the row
    is no lower than a row further down after as many more letters, and by WORD the letters behind those can put there
    at most the part of the first of them. The greatest one: by COLUMN the height and how often a later letter stands
    up to this row are together at most what the row of this later letter comes to, and by WORD the later letter
    stands up to this row at least as often as a letter stands at all that is as much later as there are rows below.
    """
    size = len(after)
    # The row of the letter's own number is done: no letter behind stands there.
    bounds = [(after[at], after[at])]
    for row in range(at + 1, size):
        least = max([after[row + more] - parts[at + 1 + more] for more in range(size - row)])
        most = min([after[letter] - parts[letter + size - 1 - row] for letter in range(at + 1, row + 1)])
        bounds.append((least, most))
    return bounds


def _limits_of_letter(at, height, above, parts, after, bounds):
    """Return for each row the least and greatest sum of the letter up to it and the least and greatest step to it.

    Sums within these limits up to one row can always be carried on to the last row. There are no limits if there are
    no such sums at all.
    """
    last = len(after) - 1
    limits = []
    for row in range(last, at - 1, -1):
        least, most = bounds[row - at]
        least_step = max(0, least - height[row])
        most_step = (min(most, height[row - 1]) if row > at else most) - height[row]
        low = max(parts[at + last - row], after[row] - height[row])
        high = min(parts[at], above[row - at])
        if limits:
            low_behind, high_behind, least_behind, most_behind = limits[-1]
            low = max(low, low_behind - most_behind)
            high = min(high, high_behind - least_behind)
        if low > high or least_step > most_step:
            return []
        limits.append((low, high, least_step, most_step))
    # The step to the first row is the first sum, and no sum less than what the row still needs is let.
    low, _, _, most_step = limits[-1]
    return limits[::-1] if most_step >= low else []


def _least_sums(limits, begun):
    """Return the least sums that begin so, or None if there are no limits."""
    if not limits:
        return None
    sums = list(begun)
    for low, _, least_step, _ in limits[len(begun):]:
        sums.append(max(low, least_step + (sums[-1] if sums else 0)))
    return sums


def _next_sums(limits, sums):
    """Return the least sums within the limits that are above these, or None."""
    for at in range(len(sums) - 1, -1, -1):
        _, high, _, most_step = limits[at]
        ahead = sums[at - 1] if at > 0 else 0
        if sums[at] < min(high, ahead + most_step):
            return _least_sums(limits, sums[:at] + [sums[at] + 1])
    return None
