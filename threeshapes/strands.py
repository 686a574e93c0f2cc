"""Strands: the letters of a filling, joined across the letters by how often each has stood so far."""

from threeshapes.errors import BadStrands
from threeshapes.fillings import MOST_ROWS, Filling
from threeshapes.numbers import is_sequence, is_whole
from threeshapes.shapes import check_shape


def strands_of(filling):
    """Return the strands: number t has the rows of the t-th letter 1, the t-th letter 2, and so on."""
    letters = [_rows_of_letter(at, counts) for at, counts in enumerate(filling.counts)]
    return tuple([
        tuple([rows[at] for rows in letters if len(rows) > at])
        for at in range(len(letters[0]))
    ])


def _rows_of_letter(at, counts):
    """Return the rows, ascending, in which the letter with this index stands, each as often as it stands there."""
    rows = []
    for row, number in enumerate(counts, at + 1):
        rows.extend([row] * number)
    return rows


def strand_chain(filling):
    """Return the shapes from after down to before, one strand less at each step."""
    shapes = [filling.after]
    for strand in strands_of(filling):
        shapes.append(tuple([part - 1 if row in strand else part for row, part in enumerate(shapes[-1], 1)]))
    return tuple(shapes)


def filling_of_strands(before, strands):
    """Return the filling with this before and these strands, or raise BadStrands or BadFilling."""
    before = check_shape(before, None, MOST_ROWS)
    size = len(before)
    _check_strands(strands, size)
    counts = [[0] * (size - at) for at in range(size)]
    after = list(before)
    for strand in strands:
        for at, row in enumerate(strand):
            counts[at][row - 1 - at] = counts[at][row - 1 - at] + 1
            after[row - 1] = after[row - 1] + 1
    return Filling(before, after, counts)


def _check_strands(strands, size):
    if not is_sequence(strands):
        raise BadStrands(0)
    last = None
    for index, strand in enumerate(strands):
        if not _is_strand(strand, size) or (last is not None and not _may_follow(strand, last)):
            raise BadStrands(index)
        last = strand


def _is_strand(thing, size):
    """Tell whether thing is a sequence of 1 to size rows that ascend."""
    if not is_sequence(thing) or not 1 <= len(thing) <= size:
        return False
    if not all([is_whole(row, 1, size) for row in thing]):
        return False
    return all([row < later for row, later in zip(thing, thing[1:])])


def _may_follow(strand, last):
    """Tell whether the strand is no longer than the last one and nowhere has a lesser row."""
    return len(strand) <= len(last) and all([row >= earlier for row, earlier in zip(strand, last)])
