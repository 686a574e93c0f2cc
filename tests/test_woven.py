import itertools
import random
import time
import unittest

from tests.plain import BIG, NO_SHAPES, NO_WHOLE, PlainCase, drawn_shape, falling_rows, plain_shape
from tests.plainrows import drawn_of_shape, plain_is_woven, plain_woven
from threeshapes.errors import BadMany, BadShape
from threeshapes.woven import count_woven, is_woven, unwoven_place, woven_shapes

SIZES = ((1, 6), (2, 5), (3, 3), (4, 3))
GREAT = 10 ** 12


def all_shapes(sizes=SIZES):
    for length, most in sizes:
        yield from falling_rows(length, most)


def pairs(low, high, other_low, other_high):
    """How many falling couples there are with these bounds, which fall: all couples less those that rise."""
    rising = max(0, other_high - low)
    return (high - low + 1) * (other_high - other_low + 1) - rising * (rising + 1) // 2


class WovenTest(PlainCase):
    def test_few_of_them(self):
        self.assertEqual(woven_shapes((3, 1), 1), ((1,), (2,), (3,)))
        self.assertEqual(woven_shapes([2, 1, 0], 2), ((1, 0), (1, 1), (2, 0), (2, 1)))
        self.assertEqual(woven_shapes((2, 1, 0), 3), ((2, 1, 0),))
        self.assertEqual(woven_shapes((2, 0, 0), many=2), ((0, 0), (1, 0), (2, 0)))
        self.assertEqual(woven_shapes((1, 1, 0, 0), 2), ((0, 0), (1, 0), (1, 1)))
        self.assertIs(is_woven((3, 1), (2,)), True)
        self.assertIs(is_woven([3, 1], [0]), False)
        self.assertIs(is_woven(part=(BIG,), shape=(BIG, 1)), True)
        self.assertIs(is_woven((BIG, 1), (BIG + 1,)), False)

    def test_all_small_shapes(self):
        for shape in all_shapes():
            for many in range(1, len(shape) + 1):
                wanted = plain_woven(shape, many)
                found = woven_shapes(shape, many)
                self.assertEqual(found, wanted)
                self.assert_tuples(found)
                self.assertEqual(count_woven(shape, many), len(wanted))
                for part in falling_rows(many, shape[0] + 1):
                    self.assertIs(is_woven(shape, part), plain_is_woven(shape, part))

    def test_unwoven_place(self):
        for shape in all_shapes(((1, 4), (2, 4), (3, 3), (4, 2))):
            n = len(shape)
            for k in range(1, n + 1):
                for part in falling_rows(k, shape[0] + 1):
                    bad = [i - 1 for i in range(1, k + 1) if not shape[n - k + i - 1] <= part[i - 1] <= shape[i - 1]]
                    self.assertEqual(unwoven_place(shape, part), bad[0] if bad else None)
        self.assertIsNone(unwoven_place([2, 1], [2]))
        self.assertEqual(unwoven_place((2, 1), (3,)), 0)
        self.assertEqual(unwoven_place((5, 3, 2, 0), (4, 1, 1)), 1)
        self.assertEqual(unwoven_place((5, 3, 2, 0), (6, 4, 3)), 0)
        self.assertEqual(unwoven_place((5, 3, 2, 0), (5, 3, 3)), 2)

    def test_as_many_parts_as_the_shape(self):
        for shape in all_shapes(((1, 4), (2, 3), (3, 2), (4, 2))):
            self.assertIs(is_woven(shape, list(shape)), True)
            self.assertEqual(woven_shapes(shape, len(shape)), (shape,))
            self.assertEqual(count_woven(shape, len(shape)), 1)
            for other in falling_rows(len(shape), 2):
                self.assertIs(is_woven(shape, other), other == shape)

    def test_step_by_step(self):
        """What is woven into the shape is reached by striking one part after another."""
        for shape in all_shapes(((3, 3), (4, 2))):
            reached = {shape}
            for many in range(len(shape) - 1, 0, -1):
                reached = {part for longer in reached for part in plain_woven(longer, many)}
                self.assertEqual(woven_shapes(shape, many), tuple(sorted(reached)))

    def test_rows_struck_out_of_tables(self):
        chance = random.Random(841)
        for length, most in ((1, 3), (2, 4), (3, 3), (4, 2)):
            for shape in falling_rows(length, most)[::2]:
                prime = chance.choice((2, 3, 5))
                table = drawn_of_shape(chance, prime, shape)
                for many in range(1, length + 1):
                    for rows in itertools.combinations(table, many):
                        self.assertTrue(is_woven(shape, plain_shape(prime, rows)))


class CountWovenTest(PlainCase):
    def test_great_parts(self):
        chance = random.Random(842)
        for _ in range(200):
            most = chance.choice((8, 30, GREAT))
            a, b, c, d = drawn_shape(chance, 4, most)
            self.assertEqual(count_woven((a,), 1), 1)
            self.assertEqual(count_woven((a, b), 1), a - b + 1)
            self.assertEqual(count_woven((a, b, c), 1), a - c + 1)
            self.assertEqual(count_woven((a, b, c), 2), (a - b + 1) * (b - c + 1))
            self.assertEqual(count_woven([a, b, c, d], many=1), a - d + 1)
            self.assertEqual(count_woven((a, b, c, d), 2), pairs(c, a, d, b))
            self.assertEqual(count_woven((a, b, c, d), 3), (a - b + 1) * (b - c + 1) * (c - d + 1))
            self.assertEqual(count_woven((a, b, c, d), 4), 1)

    def test_the_greatest_parts(self):
        start = time.perf_counter()
        self.assertEqual(count_woven((GREAT, 0), 1), GREAT + 1)
        self.assertEqual(count_woven((GREAT, GREAT, 0, 0), 2), (GREAT + 1) * (GREAT + 2) // 2)
        self.assertEqual(count_woven((GREAT, 0, 0, 0), 3), GREAT + 1)
        self.assertEqual(count_woven((GREAT,) * 4, 2), 1)
        self.assertEqual(count_woven((BIG, 0, 0, 0), 2), BIG + 1)
        self.assertLess(time.perf_counter() - start, 2)

    def test_parts_to_twenty(self):
        start = time.perf_counter()
        for shape in ((20, 14, 7, 0), (20, 20, 0, 0), (20, 10, 0), (20, 0), (20, 0, 0, 0), (17, 17, 3, 3)):
            for many in range(1, len(shape) + 1):
                found = woven_shapes(shape, many)
                self.assertEqual(len(found), count_woven(shape, many))
                self.assertEqual(list(found), sorted(set(found)))
                self.assertTrue(all(plain_is_woven(shape, part) for part in found))
        self.assertLess(time.perf_counter() - start, 10)


class ArgumentsTest(PlainCase):
    def test_wrong_shapes(self):
        for wrong, word in NO_SHAPES + (((1,) * 5, "many"),):
            for function in (is_woven, unwoven_place):
                self.assert_refused(BadShape, (word,), function, wrong, None)
                self.assert_refused(BadShape, (word,), function, (2, 1), wrong)
            for function in (woven_shapes, count_woven):
                self.assert_refused(BadShape, (word,), function, wrong, None)

    def test_a_part_of_more_parts(self):
        for function in (is_woven, unwoven_place):
            self.assert_refused(BadShape, ("many",), function, (2,), (2, 1))
            self.assert_refused(BadShape, ("many",), function, (2, 1, 0), (2, 1, 0, 0))
            self.assert_refused(BadShape, ("falling",), function, (2,), (1, 2))
            self.assert_refused(BadShape, ("number",), function, (1, True), (1, 2, 3))
            self.assert_refused(BadShape, ("falling",), function, (1, 2), (1, None, 3))

    def test_wrong_numbers(self):
        for function in (woven_shapes, count_woven):
            for many in NO_WHOLE + (0, -1, 4, BIG):
                self.assert_refused(BadMany, (many,), function, (2, 1, 0), many)
            self.assert_refused(BadMany, (2,), function, (2,), 2)
            self.assert_refused(BadShape, ("falling",), function, (1, 2), 3)

    def test_what_is_passed_stays(self):
        shape, part = [3, 1, 0], [2, 1]
        for call in (lambda: is_woven(shape, part), lambda: unwoven_place(shape, part),
                     lambda: woven_shapes(shape, 2), lambda: count_woven(shape, 2)):
            self.assertEqual(call(), call())
            self.assertEqual((shape, part), ([3, 1, 0], [2, 1]))


if __name__ == "__main__":
    unittest.main()
