import itertools
import random
import unittest

from tests.plain import BIG, PlainCase, drawn_after, drawn_shape, falling_rows, plain_fillings, shapes_of_sum
from threeshapes.errors import BadShape, BadStretch, BadTriangle, NoPlace, UnlikeTriangles
from threeshapes.fillings import Filling
from threeshapes.listing import all_fillings, count_fillings, first_filling, is_product
from threeshapes.triangles import (
    Triangle, added_triangles, broken_diamond, filling_of, mirrored_triangle, rolled_triangle, stretched_triangle,
    triangle_of,
)

ROWS = ((0, 2, 3, 3), (3, 4, 5), (5, 6), (6,))


def plain_broken(rows):
    """The broken diamonds, ascending, written as in [3.1]."""
    size = len(rows) - 1
    h = {(s, j): rows[s][j - s] for s in range(size + 1) for j in range(s, size + 1)}
    broken = []
    for s in range(size + 1):
        for j in range(size + 1):
            if 1 <= s < j <= size and not h[s, j] - h[s, j - 1] >= h[s - 1, j] - h[s - 1, j - 1]:
                broken.append((1, s, j))
            if 1 <= s <= j < size and not h[s, j + 1] - h[s, j] <= h[s - 1, j] - h[s - 1, j - 1]:
                broken.append((2, s, j))
            if 1 <= s <= j < size and not h[s + 1, j + 1] - h[s, j + 1] <= h[s, j] - h[s - 1, j]:
                broken.append((3, s, j))
    return sorted(broken)


def plain_rims(rows):
    size = len(rows) - 1
    h = {(s, j): rows[s][j - s] for s in range(size + 1) for j in range(s, size + 1)}
    places = range(1, size + 1)
    return (
        tuple(h[0, j] - h[0, j - 1] for j in places),
        tuple(h[s, size] - h[s - 1, size] for s in places),
        tuple(h[j, j] - h[j - 1, j - 1] for j in places),
    )


def rows_of_numbers(numbers, size):
    """The rows of a triangle of this size with these numbers behind the corner."""
    left = [0] + list(numbers)
    return tuple(tuple(left.pop(0) for _ in range(size + 1 - s)) for s in range(size + 1))


def small_rows():
    """Rows of size 1 and 2 with all small numbers, and drawn ones of greater sizes."""
    for size, numbers in ((1, range(-3, 4)), (2, range(-2, 4))):
        for drawn in itertools.product(numbers, repeat=(size + 1) * (size + 2) // 2 - 1):
            yield rows_of_numbers(drawn, size)
    chance = random.Random(81)
    for size in (3, 4):
        for _ in range(2000):
            yield rows_of_numbers(chance.choices((-1, 0, 0, 1, 2), k=(size + 1) * (size + 2) // 2 - 1), size)


def small_fillings():
    for size, most in ((1, 4), (2, 3), (3, 2)):
        for before in falling_rows(size, most):
            for content in falling_rows(size, most):
                for after in shapes_of_sum(size, sum(before) + sum(content)):
                    yield from all_fillings(before, content, after)


def many_triangles():
    """Triangles of sizes 1 to 5, some with numbers below 0."""
    for filling in small_fillings():
        yield triangle_of(filling)
    chance = random.Random(82)
    for _ in range(200):
        size = chance.randint(1, 5)
        before, content = [drawn_shape(chance, size, 4) for _ in range(2)]
        after = drawn_after(chance, before, content)
        if is_product(before, content, after):
            triangle = triangle_of(first_filling(before, content, after))
            for _ in range(chance.randint(0, 3)):
                triangle = chance.choice((rolled_triangle, mirrored_triangle))(triangle)
            yield triangle


def below(numbers):
    """The numbers below 0 for these, end for end."""
    return tuple(-number for number in numbers[::-1])


class DiamondsTest(PlainCase):
    def test_all_small_rows(self):
        whole = 0
        for rows in small_rows():
            broken = plain_broken(rows)
            self.assertEqual(broken_diamond(rows), broken[0] if broken else None, rows)
            if broken:
                self.assert_refused(BadTriangle, ("diamond",), Triangle, rows)
            else:
                whole += 1
                self.assertEqual(Triangle(rows).rows, rows)
        self.assertGreater(whole, 100)

    def test_each_diamond_can_be_the_only_broken_one(self):
        met = {}
        for rows in small_rows():
            broken = plain_broken(rows)
            if len(broken) == 1:
                met[broken[0]] = True
        for diamond in ((1, 1, 2), (2, 1, 1), (3, 1, 1), (1, 1, 3), (1, 2, 3), (2, 1, 2), (2, 2, 2), (3, 1, 2), (3, 2, 2)):
            self.assertIn(diamond, met)

    def test_size_one_has_no_diamonds(self):
        for a, c in ((0, 0), (-BIG, BIG), (7, -7)):
            self.assertIsNone(broken_diamond(((0, a), (c,))))
            self.assertEqual(Triangle([[0, a], [c]]).rims, ((a,), (c - a,), (c,)))

    def test_rows(self):
        for function in (broken_diamond, Triangle):
            for wrong in (None, 7, "ab", (), ((0,),), ((0, 1), ()), ((0, 1), (1, 2)), ((0,), (1,)), ((0, 1, 2), (1, 2)),
                          ((0, 1), "1"), ((0, 1), None), ("01", "1"), ((0, 1), {1: 1}), ((0, 1, 2), (1, 2), (3,), ()),
                          tuple((0,) * (26 - at) for at in range(26)), {(0, 1): 1, (1,): 1}, (0, 1)):
                self.assert_refused(BadTriangle, ("rows",), function, wrong)

    def test_number(self):
        for function in (broken_diamond, Triangle):
            for wrong in (True, None, 1.0, "1", (1,)):
                self.assert_refused(BadTriangle, ("number",), function, ((0, wrong), (1,)))
                self.assert_refused(BadTriangle, ("number",), function, ((0, 1), (wrong,)))
            self.assert_refused(BadTriangle, ("number",), function, ((False, 1), (1,)))

    def test_corner(self):
        for function in (broken_diamond, Triangle):
            for corner in (1, -1, BIG):
                self.assert_refused(BadTriangle, ("corner",), function, ((corner, 1), (1,)))

    def test_earlier_words_come_first(self):
        for function in (broken_diamond, Triangle):
            self.assert_refused(BadTriangle, ("rows",), function, ((True, 1), (1, 1)))
            self.assert_refused(BadTriangle, ("number",), function, ((1, 1), (None,)))
            self.assert_refused(BadTriangle, ("corner",), function, ((1, 0, 5), (0, 9), (0,)))
        self.assertEqual(broken_diamond(((0, 0, 5), (0, 0), (0,))), (1, 1, 2))

    def test_the_greatest_size(self):
        rows = [[0] * (25 - s) for s in range(25)]
        self.assertIsNone(broken_diamond(rows))
        self.assertEqual(Triangle(rows).rims, ((0,) * 24,) * 3)
        rows[24][0] = 1
        self.assertEqual(broken_diamond(rows), (3, 23, 23))


class TriangleTest(PlainCase):
    def test_lists_are_let_and_not_kept(self):
        rows = [list(row) for row in ROWS]
        triangle = Triangle(rows)
        self.assertEqual(rows, [list(row) for row in ROWS])
        rows[0][1] = 9
        rows.pop()
        self.assertEqual(triangle.rows, ROWS)
        self.assert_tuples((triangle.rows, triangle.rims))

    def test_equality(self):
        self.assertTrue(Triangle(ROWS) == Triangle([list(row) for row in ROWS]))
        self.assertFalse(Triangle(ROWS) != Triangle(ROWS))
        self.assertFalse(Triangle(ROWS) == Triangle(((0, 2), (3,))))
        for thing in (None, ROWS, 0, "triangle", triangle_of(Filling((1,), (1,), ((0,),))).rows):
            self.assertFalse(Triangle(ROWS) == thing)
            self.assertTrue(Triangle(ROWS) != thing)

    def test_height(self):
        for triangle in many_triangles():
            for s, row in enumerate(triangle.rows):
                for at, number in enumerate(row):
                    self.assertEqual(triangle.height(s, s + at), number)
        self.assertEqual(Triangle(ROWS).height(j=3, s=1), 5)

    def test_no_place(self):
        triangle = Triangle(ROWS)
        for s, j in ((-1, 0), (0, -1), (0, 4), (2, 1), (4, 4), (True, 1), (0, True), (None, 1), (0, None), (1.0, 2),
                     (0, "1"), ("0", 1), (BIG, BIG), (False, 0)):
            self.assert_refused(NoPlace, (s, j), triangle.height, s, j)

    def test_rims(self):
        for triangle in many_triangles():
            a, b, c = triangle.rims
            self.assertEqual((a, b, c), plain_rims(triangle.rows))
            self.assertEqual(sum(c), sum(a) + sum(b))
            for rim in (a, b, c):
                self.assertTrue(all(number >= later for number, later in zip(rim, rim[1:])))


class FillingsOfTrianglesTest(PlainCase):
    def test_example(self):
        filling = Filling((2, 1, 0), (3, 2, 1), ((1, 0, 1), (1, 0), (0,)))
        triangle = triangle_of(filling)
        self.assertEqual(triangle.rows, ROWS)
        self.assertEqual(triangle.rims, ((2, 1, 0), (2, 1, 0), (3, 2, 1)))
        rolled = rolled_triangle(triangle)
        self.assertEqual(rolled.rows, ((0, 2, 3, 3), (0, 1, 2), (-1, 0), (-3,)))
        self.assertEqual(rolled.rims, ((2, 1, 0), (-1, -2, -3), (0, -1, -2)))

    def test_heights_are_sums_of_the_chain(self):
        for filling in small_fillings():
            triangle = triangle_of(filling)
            self.assertIs(triangle.__class__, Triangle)
            self.assertEqual(triangle.rims, (filling.before, filling.content, filling.after))
            size = len(filling.before)
            for s in range(size + 1):
                for j in range(s, size + 1):
                    self.assertEqual(triangle.height(s, j), sum(filling.chain[s][:j]))

    def test_there_and_back(self):
        for filling in small_fillings():
            back = filling_of(triangle_of(filling))
            self.assertIs(back.__class__, Filling)
            self.assertTrue(back == filling)

    def test_great_sizes_and_numbers(self):
        nothing = [[0] * (24 - at) for at in range(24)]
        still = Filling((BIG,) * 24, (BIG,) * 24, nothing)
        self.assertEqual(triangle_of(still).rims, ((BIG,) * 24, (0,) * 24, (BIG,) * 24))
        self.assertTrue(filling_of(triangle_of(still)) == still)

    def test_rims_below_nought_are_refused(self):
        met = {"fillings": 0, "refused": 0}
        for rows in small_rows():
            if not plain_broken(rows):
                triangle = Triangle(rows)
                a, b, c = triangle.rims
                if min(a + b) < 0:
                    met["refused"] += 1
                    self.assert_refused(BadShape, ("number",), filling_of, triangle)
                else:
                    met["fillings"] += 1
                    filling = filling_of(triangle)
                    self.assertEqual((filling.before, filling.content, filling.after), (a, b, c))
                    self.assertEqual(triangle_of(filling).rows, rows)
        self.assertGreater(met["fillings"], 25)
        self.assertGreater(met["refused"], 50)
        # Only a part of a, or only a part of b, is below 0.
        self.assert_refused(BadShape, ("number",), filling_of, Triangle(((0, -1), (1,))))
        self.assert_refused(BadShape, ("number",), filling_of, Triangle(((0, 2), (1,))))

    def test_triangles_are_as_many_as_fillings(self):
        for a in falling_rows(3, 2):
            for b in falling_rows(3, 2):
                for c in shapes_of_sum(3, sum(a) + sum(b)):
                    triangles = 0
                    # Of the numbers of size 3 only h(1, 2) is not told by the rims.
                    starts, ends = [sum(c[:j]) for j in range(4)], [sum(a) + sum(b[:s]) for s in range(4)]
                    for inner in range(sum(c) + 1):
                        rows = ((0, a[0], a[0] + a[1], sum(a)), (starts[1], inner, ends[1]), (starts[2], ends[2]),
                                (starts[3],))
                        triangles += not plain_broken(rows)
                    self.assertEqual(triangles, len(plain_fillings(a, b, c)))


class ChangedTrianglesTest(PlainCase):
    def test_stretched(self):
        for triangle in many_triangles():
            for by in (0, 1, 2, 1000):
                stretched = stretched_triangle(triangle, by)
                self.assertEqual(stretched.rows, tuple(tuple(by * h for h in row) for row in triangle.rows))

    def test_wrong_stretches(self):
        for by in (-1, 1001, True, None, 1.0, "2", BIG):
            self.assert_refused(BadStretch, (by,), stretched_triangle, Triangle(ROWS), by)

    def test_added(self):
        chance = random.Random(83)
        triangles = list(many_triangles())
        for _ in range(400):
            one, other = chance.sample(triangles, 2)
            if len(one.rows) != len(other.rows):
                self.assert_refused(UnlikeTriangles, (), added_triangles, one, other)
                continue
            added = added_triangles(one, other)
            for s, row in enumerate(added.rows):
                for at, number in enumerate(row):
                    self.assertEqual(number, one.rows[s][at] + other.rows[s][at])
            sums = tuple(
                tuple(number + more for number, more in zip(rim, other_rim))
                for rim, other_rim in zip(one.rims, other.rims)
            )
            self.assertEqual(added.rims, sums)
            if min(one.rims[0] + one.rims[1] + other.rims[0] + other.rims[1]) >= 0:
                self.assertGreater(count_fillings(*sums), 0)

    def test_rolled(self):
        for triangle in many_triangles():
            size = len(triangle.rows) - 1
            a, b, c = triangle.rims
            rolled = rolled_triangle(triangle)
            self.assertIs(rolled.__class__, Triangle)
            for s in range(size + 1):
                for j in range(s, size + 1):
                    wanted = triangle.height(j - s, size - s) - triangle.height(0, size)
                    self.assertEqual(rolled.height(s, j), wanted)
            self.assertEqual(rolled.rims, (b, below(c), below(a)))
            self.assertTrue(rolled_triangle(rolled_triangle(rolled)) == triangle)

    def test_mirrored(self):
        for triangle in many_triangles():
            size = len(triangle.rows) - 1
            a, b, c = triangle.rims
            mirrored = mirrored_triangle(triangle)
            self.assertIs(mirrored.__class__, Triangle)
            for s in range(size + 1):
                for j in range(s, size + 1):
                    wanted = triangle.height(size - j, size - s) - triangle.height(size, size)
                    self.assertEqual(mirrored.height(s, j), wanted)
            self.assertEqual(mirrored.rims, (below(b), below(a), below(c)))
            self.assertTrue(mirrored_triangle(mirrored) == triangle)
            around = mirrored_triangle(rolled_triangle(mirrored_triangle(rolled_triangle(triangle))))
            self.assertTrue(around == triangle)

    def test_triangles_stay_as_they_are(self):
        triangle = Triangle(ROWS)
        for call in (rolled_triangle, mirrored_triangle, filling_of, lambda one: stretched_triangle(one, 3),
                     lambda one: added_triangles(one, one)):
            call(triangle)
            self.assertEqual(triangle.rows, ROWS)


if __name__ == "__main__":
    unittest.main()
