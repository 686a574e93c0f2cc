import itertools
import random
import time
import unittest

from tests.plain import BIG, PlainCase, falling_rows, shapes_of_sum
from tests.plainrows import NO_FACTORS, plain_products, plain_row_shapes
from threeshapes.errors import BadFactors, BadShape, Idle, TooMany, Unreached
from threeshapes.fewest import Fewest, fewest_factors
from threeshapes.rowsoffactors import is_row_shape


def plain_fewest(allowed, after):
    """The number and the row, by trying all rows nowhere falling of each length; None if there is none."""
    total = sum(after)
    if total == 0:
        return (0, ())
    for number in range(1, total + 1):
        for row in itertools.combinations_with_replacement(range(len(allowed)), number):
            if sum(sum(allowed[index]) for index in row) == total:
                if after in plain_row_shapes(tuple(allowed[index] for index in row)):
                    return (number, row)
    return None


def ones(length):
    return tuple((1,) * r + (0,) * (length - r) for r in range(1, length + 1))


class FewestTest(PlainCase):
    def assert_fewest(self, allowed, after, wanted):
        if wanted is None:
            self.assert_refused(Unreached, (), fewest_factors, allowed, after)
        else:
            found = fewest_factors(allowed, after)
            self.assertIsInstance(found, Fewest)
            self.assertEqual((found.number, found.row), wanted)
            self.assert_tuples((found.number, found.row))

    def test_few_of_them(self):
        self.assert_fewest(((1, 0),), (2, 1), (3, (0, 0, 0)))
        self.assert_fewest([[1, 0], [1, 1]], [2, 1], (2, (0, 1)))
        self.assert_fewest([[1, 1], [1, 0]], [2, 1], (2, (0, 1)))
        self.assert_fewest(((2, 0), (1, 0)), (2, 1), (2, (0, 1)))
        self.assert_fewest(((2, 0), (1, 0)), (1, 1), (2, (1, 1)))
        self.assert_fewest(((2, 0),), (2, 1), None)
        self.assert_fewest(((2, 0),), (1, 1), None)
        self.assert_fewest(((1, 1),), (2, 1), None)
        self.assert_fewest(((3,), (2,)), (1,), None)
        self.assert_fewest(((5,), (3,)), (12,), (4, (1, 1, 1, 1)))
        self.assert_fewest(((3,), (4,), (5,)), (12,), (3, (0, 1, 2)))

    def test_an_after_of_sum_nought(self):
        for length in range(1, 5):
            self.assert_fewest(ones(length), (0,) * length, (0, ()))
            self.assert_fewest([[3] * length] * 6, [0] * length, (0, ()))

    def test_all_small_rows(self):
        for length, most, size, total in ((1, 4, 3, 7), (2, 2, 2, 6), (2, 3, 1, 6), (3, 2, 1, 5), (3, 1, 2, 5), (4, 1, 2, 4)):
            shapes = falling_rows(length, most)[1:]
            for many in range(1, size + 1):
                for allowed in itertools.permutations(shapes, many):
                    for sum_of_after in range(total + 1):
                        for after in shapes_of_sum(length, sum_of_after):
                            self.assert_fewest(allowed, after, plain_fewest(allowed, after))

    def test_drawn_rows(self):
        chance = random.Random(831)
        seen = {}
        for _ in range(150):
            length = chance.choice((2, 3, 4))
            shapes = falling_rows(length, {2: 4, 3: 2, 4: 2}[length])[1:]
            # Doubles may come, too.
            allowed = tuple(chance.choices(shapes, k=chance.randint(1, 6)))
            after = chance.choice(shapes_of_sum(length, chance.randint(3, 7)))
            wanted = plain_fewest(allowed, after)
            self.assert_fewest(allowed, after, wanted)
            seen[wanted and wanted[0]] = True
        self.assertTrue({None, 1, 2, 3, 4}.issubset(seen))

    def test_shapes_of_ones(self):
        for length in range(1, 5):
            for total in range(9):
                for after in shapes_of_sum(length, total):
                    self.assertEqual(fewest_factors(ones(length), after).number, after[0])
        for after in ((12, 0, 0, 0), (3, 3, 3, 3), (5, 4, 2, 1), (6, 6, 0, 0), (4, 4, 4, 0)):
            self.assertEqual(fewest_factors(ones(4)[::-1], after).number, after[0])

    def test_more_than_five_factors(self):
        self.assert_fewest(((1, 0),), (6, 0), (6, (0,) * 6))
        self.assert_fewest(((1, 0, 0, 0),), (3, 3, 3, 3), (12, (0,) * 12))
        self.assert_fewest(((2, 0), (1, 1)), (6, 6), (6, (0, 0, 0, 0, 0, 0)))
        self.assert_fewest(((1, 1), (2, 0)), (6, 6), (6, (0, 0, 0, 0, 0, 0)))
        self.assert_fewest(((1, 1), (2, 0)), (7, 5), (6, (0, 0, 0, 0, 0, 1)))

    def test_the_row_reaches_after(self):
        chance = random.Random(832)
        for _ in range(40):
            allowed = tuple(chance.sample(falling_rows(4, 2)[1:], 4))
            after = chance.choice(shapes_of_sum(4, chance.randint(6, 12)))
            try:
                found = fewest_factors(allowed, after)
            except Unreached:
                continue
            self.assertEqual(found.row, tuple(sorted(found.row)))
            self.assertEqual(found.number, len(found.row))
            if found.number <= 5:
                self.assertTrue(is_row_shape([allowed[index] for index in found.row], after))

    def test_doubles(self):
        self.assert_fewest(((1, 0), (1, 0), (1, 0)), (1, 1), (2, (0, 0)))
        self.assert_fewest(((2, 0), (1, 0), (2, 0), (1, 0)), (2, 1), (2, (0, 1)))
        self.assert_fewest(((1, 0, 0, 0),) * 6, (3, 3, 3, 3), (12, (0,) * 12))


class ArgumentsTest(PlainCase):
    def test_wrong_allowed_shapes(self):
        for allowed, what, index in NO_FACTORS + ((((1, 0),) * 7, "many", 0),):
            self.assert_refused(BadFactors, (what, index), fewest_factors, allowed, None)
        self.assertEqual(fewest_factors(((1, 0),) * 6, (1, 0)).number, 1)

    def test_wrong_after(self):
        for after, word in ((None, "many"), ("10", "many"), ((), "many"), ((1,), "many"), ((1, 0, 0), "many"),
                            ((True, 0), "number"), ((1, -1), "number"), ((1, 2), "falling")):
            self.assert_refused(BadShape, (word,), fewest_factors, ((0, 0),), after)

    def test_idle(self):
        for index in range(6):
            allowed = [(1, 0)] * 6
            allowed[index] = (0, 0)
            self.assert_refused(Idle, (index,), fewest_factors, allowed, (13, 0))
            self.assert_refused(Idle, (index,), fewest_factors, allowed, (0, 0))
        self.assert_refused(Idle, (1,), fewest_factors, ((1,), (0,), (0,)), (1,))

    def test_sums_of_12_and_above(self):
        self.assertEqual(fewest_factors(((1, 0),), (12, 0)).number, 12)
        for after in ((13, 0), (7, 6), (BIG, BIG)):
            self.assert_refused(TooMany, (12,), fewest_factors, ((1, 0),), after)
        # The sums of the allowed shapes do not matter.
        self.assertEqual(fewest_factors(((BIG, 1), (20, 20), (1, 0)), (2, 0)).row, (2, 2))
        self.assert_refused(Unreached, (), fewest_factors, ((BIG, BIG), (20, 20)), (2, 0))
        self.assert_refused(BadShape, ("falling",), fewest_factors, ((0, 0),), (1, 13))

    def test_what_is_passed_stays_and_answers_stay(self):
        allowed, after = [[2, 0], [1, 0]], [2, 1]
        self.assertEqual(vars(fewest_factors(allowed, after)), vars(fewest_factors(after=after, allowed=allowed)))
        self.assertEqual((allowed, after), ([[2, 0], [1, 0]], [2, 1]))

    def test_quick_within_the_bounds(self):
        start = time.perf_counter()
        for allowed in (((1, 0, 0, 0), (2, 0, 0, 0), (1, 1, 0, 0), (3, 0, 0, 0), (2, 1, 0, 0), (1, 1, 1, 0)),
                        ((2, 0, 0, 0), (2, 1, 0, 0), (3, 0, 0, 0), (1, 1, 1, 1), (2, 1, 1, 0), (2, 2, 0, 0)),
                        ((1, 0, 0, 0),) * 6, ((1, 1, 0, 0),) * 6):
            for after in ((3, 3, 3, 3), (12, 0, 0, 0), (5, 4, 2, 1), (11, 1, 0, 0)):
                try:
                    found = fewest_factors(allowed, after)
                    self.assertEqual(sum(sum(allowed[index]) for index in found.row), 12)
                except Unreached:
                    self.assertNotIn((1, 0, 0, 0), allowed)
        self.assertLess(time.perf_counter() - start, 60)


class PlainReckoningTest(unittest.TestCase):
    def test_the_plain_one_knows_the_order_of_factors_does_not_matter(self):
        for row in itertools.permutations(((2, 1, 0), (1, 0, 0), (1, 1, 0))):
            self.assertEqual(plain_row_shapes(row), plain_row_shapes(((1, 0, 0), (1, 1, 0), (2, 1, 0))))
        self.assertEqual(plain_products((1, 0), (1, 0)), ((1, 1), (2, 0)))


if __name__ == "__main__":
    unittest.main()
