import itertools
import random
import time
import unittest

from tests.plain import BIG, NO_SHAPES, PlainCase, shapes_of_sum
from tests.plainrows import (
    NO_FACTORS, drawn_rows, plain_count, plain_row_shapes, plain_way_count, plain_ways, small_rows,
)
from threeshapes.errors import BadFactors, BadShape, NoWay, TooMany
from threeshapes.rowsoffactors import (
    all_beginnings, check_factors, is_row_shape, row_way, shapes_of_row, ways_of_row,
)

EXAMPLE = ((1, 0), (1, 0), (2, 0))
SMALL = (
    (1, 4, 1), (1, 3, 2), (1, 2, 3), (1, 1, 5), (2, 4, 1), (2, 3, 2), (2, 2, 3), (2, 1, 4), (2, 1, 5), (3, 3, 1),
    (3, 2, 2), (3, 1, 3), (3, 1, 4), (4, 2, 1), (4, 1, 2), (4, 1, 3),
)
LARGER = ((2, 4, 3), (2, 3, 4), (2, 3, 5), (3, 3, 2), (3, 2, 3), (3, 1, 5), (3, 2, 4), (4, 2, 2), (4, 1, 4), (4, 1, 5))


def listed(factors, after):
    return list(all_beginnings(factors, after))


WITH_AFTER = (listed, row_way, is_row_shape, ways_of_row)


def some_rows():
    yield from small_rows(SMALL)
    yield from drawn_rows(random.Random(801), 60, LARGER, 9)


class CheckFactorsTest(PlainCase):
    def test_rows_are_returned_as_tuples(self):
        for factors in ([[2, 1]], ([0, 0],), [(1, 1, 0)] * 5, (((4, 3, 2, 1),) * 5), [[BIG, BIG]] * 5, ((0,), [7])):
            found = check_factors(factors)
            self.assertEqual(found, tuple(tuple(shape) for shape in factors))
            self.assert_tuples(found)
        self.assertEqual(check_factors(factors=EXAMPLE), EXAMPLE)

    def test_no_rows(self):
        for factors, what, index in NO_FACTORS + ((((1, 0),) * 6, "many", 0), (((1, 2),) * 6, "many", 0)):
            self.assert_refused(BadFactors, (what, index), check_factors, factors)

    def test_sums_do_not_matter(self):
        self.assertEqual(check_factors(((25,),)), ((25,),))
        self.assertEqual(check_factors(((BIG, 0), (BIG, 0))), ((BIG, 0), (BIG, 0)))


class WaysTest(PlainCase):
    def test_example(self):
        self.assertEqual(shapes_of_row(EXAMPLE), ((2, 2), (3, 1), (4, 0)))
        ways = [((1, 0), (1, 1), (3, 1)), ((1, 0), (2, 0), (3, 1))]
        self.assertEqual(listed(EXAMPLE, (3, 1)), ways)
        self.assertEqual(row_way(EXAMPLE, (3, 1)), ways[0])
        self.assertEqual(ways_of_row(EXAMPLE, (3, 1)), 2)
        self.assertIs(is_row_shape(EXAMPLE, (3, 1)), True)
        self.assertIs(is_row_shape(((1, 0), (1, 0), (4, 0)), (3, 3)), False)

    def test_rows_of_one_factor(self):
        for shape in ((0,), (3,), (2, 0), (2, 2, 1), (0, 0, 0, 0), (4, 2, 1, 0)):
            self.assertEqual(listed((shape,), shape), [(shape,)])
            self.assertEqual(row_way([list(shape)], list(shape)), (shape,))
            self.assertEqual(shapes_of_row((shape,)), (shape,))
            self.assertEqual(ways_of_row((shape,), shape), 1)
            other = (shape[0] + 1,) + shape[1:]
            self.assertEqual(listed((shape,), other), [])
            self.assertEqual(ways_of_row((shape,), other), 0)
            self.assertIs(is_row_shape((shape,), other), False)
            self.assert_refused(NoWay, (), row_way, (shape,), other)
        self.assertEqual(ways_of_row(((2, 0),), (1, 1)), 0)

    def test_all_small_rows(self):
        for factors in some_rows():
            ways = plain_ways(factors)
            wanted = plain_row_shapes(factors)
            found = shapes_of_row(factors)
            self.assertEqual(found, wanted)
            self.assert_tuples(found)
            for after in shapes_of_sum(len(factors[0]), sum(map(sum, factors))):
                fitting = [way for way in ways if way[-1] == after]
                self.assertEqual(listed(factors, after), fitting)
                self.assertIs(is_row_shape(factors, after), after in wanted)
                number = ways_of_row(factors, after)
                self.assertEqual(number, plain_way_count(factors, after))
                self.assertIs(number > 0, after in wanted)
                if fitting:
                    self.assertEqual(row_way(factors, after), fitting[0])
                else:
                    self.assert_refused(NoWay, (), row_way, factors, after)

    def test_beginnings_are_tuples(self):
        for way in all_beginnings([[1, 0], [1, 0], [2, 0]], [3, 1]):
            self.assert_tuples(way)
            self.assertIsInstance(way, tuple)
        self.assert_tuples(row_way([[1, 0], [1, 0], [2, 0]], [3, 1]))

    def test_an_after_of_another_sum(self):
        for factors in drawn_rows(random.Random(802), 40, SMALL, 12):
            total = sum(map(sum, factors))
            for other in {0, max(0, total - 1), total + 1, total + 7} - {total}:
                for after in shapes_of_sum(len(factors[0]), other)[:3]:
                    self.assertEqual(listed(factors, after), [])
                    self.assertEqual(ways_of_row(factors, after), 0)
                    self.assertIs(is_row_shape(factors, after), False)
                    self.assert_refused(NoWay, (), row_way, factors, after)
        self.assertEqual(ways_of_row(EXAMPLE, (BIG, 0)), 0)
        self.assertIs(is_row_shape(EXAMPLE, (BIG, BIG)), False)

    def test_every_order_has_the_same_number(self):
        for factors in drawn_rows(random.Random(803), 30, LARGER + SMALL, 9):
            orders = sorted(set(itertools.permutations(factors)))
            for after in shapes_of_sum(len(factors[0]), sum(map(sum, factors))):
                numbers = {ways_of_row(order, after) for order in orders[::max(1, len(orders) // 12)]}
                self.assertEqual(len(numbers), 1)
            self.assertEqual(len({shapes_of_row(order) for order in orders}), 1)

    def test_every_cut_into_two_rows(self):
        for factors in drawn_rows(random.Random(804), 40, LARGER + SMALL[1:], 9):
            for cut in range(1, len(factors)):
                first, second = factors[:cut], factors[cut:]
                for after in shapes_of_sum(len(factors[0]), sum(map(sum, factors))):
                    total = 0
                    for y in shapes_of_row(first):
                        for z in shapes_of_row(second):
                            ways = ways_of_row(first, y) * ways_of_row(second, z)
                            total += ways * plain_count(y, z, after)
                    self.assertEqual(ways_of_row(factors, after), total)

    def test_noughts_change_nothing(self):
        for factors in drawn_rows(random.Random(805), 20, ((2, 3, 3), (3, 2, 3), (4, 1, 3)), 9):
            noughts = (0,) * len(factors[0])
            for longer in ((noughts,) + factors, factors + (noughts,), factors[:1] + (noughts,) + factors[1:]):
                self.assertEqual(shapes_of_row(longer), shapes_of_row(factors))
                for after in shapes_of_row(factors):
                    self.assertEqual(ways_of_row(longer, after), ways_of_row(factors, after))
        self.assertEqual(listed(((0, 0),) * 5, (0, 0)), [((0, 0),) * 5])


class WrongArgumentsTest(PlainCase):
    def test_wrong_factors(self):
        for factors, what, index in NO_FACTORS + ((((1, 0),) * 6, "many", 0),):
            for function in WITH_AFTER:
                self.assert_refused(BadFactors, (what, index), function, factors, (1, 0))
            self.assert_refused(BadFactors, (what, index), shapes_of_row, factors)

    def test_wrong_after(self):
        for function in WITH_AFTER:
            for after, word in NO_SHAPES + (((1,) * 5, "many"), ((1,), "many"), ((1, 0, 0), "many")):
                word = "many" if isinstance(after, tuple) and len(after) != 2 else word
                self.assert_refused(BadShape, (word,), function, EXAMPLE, after)

    def test_two_wrong_things(self):
        for function in WITH_AFTER:
            self.assert_refused(BadFactors, ("shape", 1), function, ((25, 0), (1, 2)), None)
            self.assert_refused(BadFactors, ("length", 1), function, ((25, 0), (25,)), (1, 2))
            self.assert_refused(BadFactors, ("many", 0), function, ((25, 0),) * 6, (1, 2))
            self.assert_refused(BadShape, ("falling",), function, ((25, 0), (1, 0)), (1, 2))
            self.assert_refused(BadShape, ("many",), function, ((25, 0), (1, 0)), (True,))

    def test_sums_of_24_and_above(self):
        for factors in (((25,),), ((12, 0), (13, 0)), ((5,), (5,), (5,), (5,), (5,)), ((BIG, 0), (BIG, 0)),
                        ((7, 6, 6, 6),), ((5, 0, 0),) * 5):
            after = tuple([sum(map(sum, factors))] + [0] * (len(factors[0]) - 1))
            for function in WITH_AFTER:
                self.assert_refused(TooMany, (24,), function, factors, after)
                self.assert_refused(TooMany, (24,), function, factors, (0,) * len(factors[0]))
            self.assert_refused(TooMany, (24,), shapes_of_row, factors)
        for factors in (((24,),), ((12, 0), (12, 0)), ((5,), (5,), (5,), (5,), (4,))):
            after = tuple([24] + [0] * (len(factors[0]) - 1))
            for function in WITH_AFTER:
                self.assertTrue(function(factors, after))
            self.assertEqual(shapes_of_row(factors)[-1], after)


class KeepingTest(PlainCase):
    def test_what_is_passed_stays_and_answers_stay(self):
        factors, after = [[1, 0], [1, 0], [2, 0]], [3, 1]
        for function in WITH_AFTER:
            self.assertEqual(function(factors, after), function(after=after, factors=factors))
        self.assertEqual(shapes_of_row(factors), shapes_of_row(factors=factors))
        ways = all_beginnings(factors, after)
        first = next(ways)
        other = all_beginnings(factors, after)
        self.assertEqual(next(other), first)
        self.assertEqual([first] + list(ways), listed(factors, after))
        self.assertEqual((factors, after), ([[1, 0], [1, 0], [2, 0]], [3, 1]))

    def test_quick_within_the_bounds(self):
        start = time.perf_counter()
        for factors, after in (
            (((6, 2, 0), (5, 3, 0), (6, 2, 0)), (10, 8, 6)),
            (((6, 4, 2, 0), (6, 3, 2, 1)), (9, 7, 5, 3)),
            (((2, 1, 0, 0), (2, 0, 0, 0), (1, 1, 0, 0), (1, 1, 1, 0), (2, 0, 0, 0)), (5, 4, 2, 1)),
            (((2, 1, 0),) * 4, (6, 4, 2)),
            (((5, 0), (5, 0), (4, 0), (5, 0), (5, 0)), (13, 11)),
        ):
            self.assertIn(after, shapes_of_row(factors))
            self.assertIs(is_row_shape(factors, after), True)
            self.assertGreater(ways_of_row(factors, after), 5)
            ways = listed(factors, after)
            self.assertEqual(ways, sorted(set(ways)))
            self.assertEqual(ways[0], row_way(factors, after))
        self.assertLess(time.perf_counter() - start, 30)


if __name__ == "__main__":
    unittest.main()
