"""Triangles: fillings written so that their three shapes stand alike on three sides."""

from threeshapes.errors import BadShape, BadStretch, BadTriangle, NoPlace, UnlikeTriangles
from threeshapes.fillings import Filling
from threeshapes.numbers import is_sequence, is_whole

MOST_SIZE = 24
MOST_STRETCH = 1000


class Triangle:
    """Whole numbers h(s, j), in rows by s, that break no diamond."""

    def __init__(self, rows):
        broken = broken_diamond(rows)
        if broken is not None:
            raise BadTriangle("diamond")
        self.rows = tuple([tuple(row) for row in rows])

    def __eq__(self, other):
        return isinstance(other, Triangle) and self.rows == other.rows

    @property
    def rims(self):
        """The three rims a, b, c."""
        ends = [row[-1] for row in self.rows]
        starts = [row[0] for row in self.rows]
        return (_steps_of(self.rows[0]), _steps_of(ends), _steps_of(starts))

    def height(self, s, j):
        """Return h(s, j), or raise NoPlace."""
        size = len(self.rows) - 1
        if not is_whole(j, 0, size) or not is_whole(s, 0, j):
            raise NoPlace(s, j)
        return self.rows[s][j - s]


def _steps_of(numbers):
    """Return how much each number but the first is above the number ahead of it."""
    return tuple([number - less for number, less in zip(numbers[1:], numbers)])


def broken_diamond(rows):
    """Return the least broken diamond as (sort, s, j), or None if none is broken, or raise BadTriangle."""
    _check_rows(rows)
    size = len(rows) - 1
    for sort in (1, 2, 3):
        for s in range(1, size):
            first = s + 1 if sort == 1 else s
            last = size if sort == 1 else size - 1
            for j in range(first, last + 1):
                if _is_broken(rows, sort, s, j):
                    return (sort, s, j)
    return None


def _check_rows(rows):
    if not is_sequence(rows) or not 2 <= len(rows) <= MOST_SIZE + 1:
        raise BadTriangle("rows")
    for at, row in enumerate(rows):
        if not is_sequence(row) or len(row) != len(rows) - at:
            raise BadTriangle("rows")
    if not all([is_whole(number) for row in rows for number in row]):
        raise BadTriangle("number")
    if rows[0][0] != 0:
        raise BadTriangle("corner")


def _is_broken(rows, sort, s, j):
    """Tell whether the diamond with this sort and place is broken; h(s, j) is rows[s][j - s]."""
    row = rows[s]
    above = rows[s - 1]
    at = j - s
    if sort == 1:
        return row[at] - row[at - 1] < above[at + 1] - above[at]
    if sort == 2:
        return row[at + 1] - row[at] > above[at + 1] - above[at]
    return rows[s + 1][at] - row[at + 1] > row[at] - above[at + 1]


def triangle_of(filling):
    """Return the triangle in which h(s, j) is the sum of the first j parts of the shape s of the chain."""
    size = len(filling.before)
    rows = []
    for s, shape in enumerate(filling.chain):
        rows.append([sum(shape[:j]) for j in range(s, size + 1)])
    return Triangle(rows)


def filling_of(triangle):
    """Return the filling whose triangle this is, or raise BadShape."""
    before, content, after = triangle.rims
    if before[-1] < 0 or content[-1] < 0:
        raise BadShape("number")
    counts = []
    for above, row in zip(triangle.rows, triangle.rows[1:]):
        sums = [number - less for number, less in zip(row, above[1:])]
        counts.append([more - less for more, less in zip(sums, [0] + sums)])
    return Filling(before, after, counts)


def stretched_triangle(triangle, by):
    """Return the triangle with every number multiplied, or raise BadStretch."""
    if not is_whole(by, 0, MOST_STRETCH):
        raise BadStretch(by)
    return Triangle([[number * by for number in row] for row in triangle.rows])


def added_triangles(one, other):
    """Return the triangle whose numbers are the sums of those at the same place, or raise UnlikeTriangles."""
    if len(one.rows) != len(other.rows):
        raise UnlikeTriangles()
    return Triangle([
        [number + more for number, more in zip(row, other_row)]
        for row, other_row in zip(one.rows, other.rows)
    ])


def rolled_triangle(triangle):
    """Return the triangle turned by a third: its number (s, j) is h(j - s, n - s) less h(0, n)."""
    size = len(triangle.rows) - 1
    corner = triangle.height(0, size)
    return Triangle([
        [triangle.height(j - s, size - s) - corner for j in range(s, size + 1)]
        for s in range(size + 1)
    ])


def mirrored_triangle(triangle):
    """Return the mirrored triangle: its number (s, j) is h(n - j, n - s) less h(n, n)."""
    size = len(triangle.rows) - 1
    corner = triangle.height(size, size)
    return Triangle([
        [triangle.height(size - j, size - s) - corner for j in range(s, size + 1)]
        for s in range(size + 1)
    ])
