import itertools
import random
import time
import unittest
from fractions import Fraction

from tests.plain import BIG, NO_SHAPES, PlainCase, drawn_shape, falling_rows, rows_of_sum
from tests.plainrows import plain_row_chains, plain_rises, plain_way_count
from threeshapes.errors import BadRises, BadShape
from threeshapes.rowchains import all_row_chains, check_rises, count_by_rises, count_row_chains
from threeshapes.rowsoffactors import ways_of_row

SIZES = ((1, 6), (2, 5), (3, 4), (4, 3))
GREAT = 10 ** 12
NO_RISES = (None, 7, "11", (), (1,), (1, 1, 1), (1, True), (False, 1), (1, None), (1.0, 1), ("1", 1), (-1, 3),
            (1, -1), {0: 1, 1: 1}, iter((1, 1)), range(2))


def all_shapes():
    for length, most in SIZES:
        yield from falling_rows(length, most)


def plain_number(shape):
    """The product of c_i - c_j + j - i over that of j - i, as a fraction."""
    number = Fraction(1)
    for i, j in itertools.combinations(range(len(shape)), 2):
        number *= Fraction(shape[i] - shape[j] + j - i, j - i)
    return number


class RowChainsTest(PlainCase):
    def test_example(self):
        self.assertEqual(list(all_row_chains((3, 1))), [((1,), (3, 1)), ((2,), (3, 1)), ((3,), (3, 1))])
        self.assertEqual(count_row_chains((3, 1)), 3)
        self.assertEqual(count_by_rises((2, 1), (1, 2)), 1)
        self.assertEqual(count_by_rises((3, 1), (1, 3)), 1)
        self.assertEqual(count_by_rises((3, 1), (3, 1)), 1)

    def test_all_small_shapes(self):
        for shape in all_shapes():
            wanted = plain_row_chains(shape)
            found = list(all_row_chains(shape))
            self.assertEqual(found, list(wanted))
            self.assert_tuples(tuple(found))
            self.assertEqual(count_row_chains(shape), len(wanted))

    def test_one_part(self):
        self.assertEqual(list(all_row_chains([5])), [((5,),)])
        self.assertEqual(count_row_chains([5]), 1)
        self.assertEqual(count_row_chains((BIG,)), 1)
        self.assertEqual(list(all_row_chains((0, 0, 0, 0))), [((0,), (0, 0), (0, 0, 0), (0, 0, 0, 0))])

    def test_great_parts(self):
        start = time.perf_counter()
        chance = random.Random(851)
        for _ in range(100):
            a, b, c, d = drawn_shape(chance, 4, GREAT)
            self.assertEqual(count_row_chains((a, b)), a - b + 1)
            self.assertEqual(count_row_chains((a, b, c)), (a - b + 1) * (b - c + 1) * (a - c + 2) // 2)
            self.assertEqual(count_row_chains([a, b, c, d]), plain_number((a, b, c, d)))
        self.assertEqual(count_row_chains((GREAT, 0, 0)), (GREAT + 1) * (GREAT + 2) // 2)
        self.assertEqual(count_row_chains((GREAT,) * 4), 1)
        self.assertEqual(count_row_chains((BIG, 0)), BIG + 1)
        self.assertLess(time.perf_counter() - start, 2)

    def test_parts_to_nine(self):
        start = time.perf_counter()
        for shape in ((9, 6, 3, 0), (9, 9, 0, 0), (9, 4, 0), (9, 0), (9, 7, 2, 1), (9, 0, 0, 0)):
            found = list(all_row_chains(shape))
            self.assertEqual(len(found), count_row_chains(shape))
            self.assertEqual(found, sorted(set(found)))
            many = {}
            for chain in found:
                many[plain_rises(chain)] = many.get(plain_rises(chain), 0) + 1
            for rises in sorted(many)[::9]:
                self.assertEqual(count_by_rises(shape, rises), many[rises])
        self.assertLess(time.perf_counter() - start, 30)


class RisesTest(PlainCase):
    def test_all_small_rises(self):
        for shape in all_shapes():
            many = {}
            for chain in plain_row_chains(shape):
                many[plain_rises(chain)] = many.get(plain_rises(chain), 0) + 1
            total = 0
            for rises in rows_of_sum(sum(shape), (sum(shape),) * len(shape)):
                number = count_by_rises(shape, rises)
                self.assertEqual(number, many.get(rises, 0))
                total += number
            self.assertEqual(total, count_row_chains(shape))

    def test_every_order_of_the_rises(self):
        chance = random.Random(852)
        for _ in range(60):
            length = chance.choice((2, 3, 4))
            shape = drawn_shape(chance, length, 6)
            rises = chance.choice(rows_of_sum(sum(shape), (shape[0],) * length))
            numbers = {count_by_rises(shape, list(order)) for order in itertools.permutations(rises)}
            self.assertEqual(len(numbers), 1)

    def test_the_number_of_ways_of_single_rows(self):
        for length, most in ((1, 4), (2, 3), (3, 2), (4, 1)):
            for shape in falling_rows(length, most):
                for rises in rows_of_sum(sum(shape), (sum(shape),) * length):
                    factors = ((0,) * length,) + tuple((rise,) + (0,) * (length - 1) for rise in rises)
                    self.assertEqual(count_by_rises(shape, rises), plain_way_count(factors, shape))
                    self.assertEqual(count_by_rises(shape, rises), ways_of_row(factors[1:], shape))

    def test_rises_of_another_sum(self):
        for rises in ((1, 1), (0, 0), (2, 2), (0, 4), (BIG, 0), (0, BIG)):
            self.assertEqual(count_by_rises((2, 1), rises), 0)
        self.assertEqual(count_by_rises((3,), (3,)), 1)
        self.assertEqual(count_by_rises((3,), [2]), 0)
        self.assertEqual(count_by_rises((0, 0), (0, 0)), 1)
        self.assertEqual(count_by_rises((2, 1, 0), (1, 1, 1)), 2)

    def test_check_rises(self):
        for rises in ([1, 2], (0, 0), [BIG, 0], (3, 1)):
            found = check_rises(rises, 2)
            self.assertEqual(found, tuple(rises))
            self.assert_tuples(found)
        self.assertEqual(check_rises(rises=[4], many=1), (4,))
        self.assertEqual(check_rises([1, 0, 0, 2, 0], 5), (1, 0, 0, 2, 0))
        self.assertEqual(check_rises((), 0), ())
        for wrong in NO_RISES:
            self.assert_refused(BadRises, (), check_rises, wrong, 2)


class ArgumentsTest(PlainCase):
    def test_wrong_shapes(self):
        for wrong, word in NO_SHAPES + (((1,) * 5, "many"),):
            self.assert_refused(BadShape, (word,), lambda given: list(all_row_chains(given)), wrong)
            self.assert_refused(BadShape, (word,), count_row_chains, wrong)
            self.assert_refused(BadShape, (word,), count_by_rises, wrong, None)

    def test_wrong_rises(self):
        for wrong in NO_RISES:
            self.assert_refused(BadRises, (), count_by_rises, (2, 1), wrong)
        self.assert_refused(BadRises, (), count_by_rises, (2,), (1, 1))
        self.assert_refused(BadRises, (), count_by_rises, (2, 1, 0, 0), (1, 1, 1))

    def test_what_is_passed_stays_and_answers_stay(self):
        shape, rises = [2, 1, 0], [1, 1, 1]
        for call in (lambda: list(all_row_chains(shape)), lambda: count_row_chains(shape), lambda: check_rises(rises, 3),
                     lambda: count_by_rises(rises=rises, shape=shape)):
            self.assertEqual(call(), call())
            self.assertEqual((shape, rises), ([2, 1, 0], [1, 1, 1]))
        chains = all_row_chains(shape)
        first = next(chains)
        self.assertEqual([first] + list(chains), list(plain_row_chains((2, 1, 0))))


if __name__ == "__main__":
    unittest.main()
