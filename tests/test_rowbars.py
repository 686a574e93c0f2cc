import itertools
import random
import time
import unittest

from tests.plain import BIG, PlainCase, shapes_of_sum
from tests.plainrows import NO_FACTORS, drawn_rows, plain_products, plain_row_shapes, small_rows
from threeshapes.errors import BadFactors, BadShape, TooMany
from threeshapes.rowbars import BrokenRow, row_bar
from threeshapes.rowsoffactors import is_row_shape

SMALL = (
    (1, 3, 1), (1, 2, 3), (1, 1, 5), (2, 4, 1), (2, 3, 2), (2, 2, 3), (2, 1, 4), (2, 1, 5), (3, 3, 1), (3, 2, 2),
    (3, 1, 3), (4, 2, 1), (4, 1, 2),
)
LARGER = ((2, 5, 3), (2, 3, 4), (2, 3, 5), (3, 4, 2), (3, 3, 3), (4, 3, 2), (4, 2, 2))
# The greater rows are gone through with few of their after, for the cost of the plain reckoning.
GREATEST = ((3, 2, 4), (3, 1, 5), (4, 2, 3), (4, 1, 4), (4, 1, 5))


def told(broken):
    return None if broken is None else (broken.what, broken.places, broken.sums, broken.over)


def plain_place_shape(places):
    return tuple(place - at for at, place in enumerate(places, 1))[::-1]


def plain_row_bars(length, many):
    """All row bars for so many factors in their order: the factors' places and the sums."""
    for size in range(1, length):
        choices = list(itertools.combinations(range(1, length + 1), size))
        for places in itertools.product(choices, repeat=many):
            shapes = tuple(plain_place_shape(own) for own in places)
            reached = plain_reached(shapes)
            for sums in choices:
                if plain_place_shape(sums) in reached:
                    yield places, sums


def plain_reached(shapes):
    if sum(map(sum, shapes)) > 4:
        # No places for n up to 4 have a shape with a greater sum.
        return ()
    reached = {shapes[0]}
    for factor in shapes[1:]:
        reached = {later for shape in reached for later in plain_products(shape, factor)}
    return reached


ROW_BARS = {}


def plain_broken(factors, after):
    """What row_bar has to tell."""
    over = sum(after) - sum(map(sum, factors))
    if over:
        return ("sum", (), (), over)
    key = (len(after), len(factors))
    if key not in ROW_BARS:
        ROW_BARS[key] = list(plain_row_bars(*key))
    for places, sums in ROW_BARS[key]:
        most = sum(factor[place - 1] for factor, own in zip(factors, places) for place in own)
        over = sum(after[place - 1] for place in sums) - most
        if over > 0:
            return ("bar", places, sums, over)
    return None


class RowBarTest(PlainCase):
    def test_example(self):
        factors = ((1, 0), (1, 0), (4, 0))
        self.assertEqual(told(row_bar(factors, (3, 3))), ("bar", ((1,), (1,), (2,)), (2,), 1))
        self.assertIsNone(row_bar(factors, (4, 2)))
        self.assertIsNone(row_bar([[1, 0], [1, 0], [2, 0]], [3, 1]))

    def test_the_sum(self):
        for factors in drawn_rows(random.Random(811), 60, SMALL + LARGER + GREATEST, 24):
            total = sum(map(sum, factors))
            for other in {0, max(0, total - 2), total + 1, total + 9} - {total}:
                after = (other,) + (0,) * (len(factors[0]) - 1)
                self.assertEqual(told(row_bar(factors, after)), ("sum", (), (), other - total))
        self.assertEqual(told(row_bar(((3,),), (BIG,))), ("sum", (), (), BIG - 3))
        self.assertEqual(told(row_bar(((2, 1), (4, 0)), (0, 0))), ("sum", (), (), -7))

    def test_one_part_has_the_sum_alone(self):
        self.assertIsNone(row_bar(((3,), (4,), (5,)), (12,)))
        self.assertIsNone(row_bar(((0,),), (0,)))
        self.assertEqual(told(row_bar(((3,), (4,)), (8,))), ("sum", (), (), 1))

    def test_one_factor(self):
        self.assertIsNone(row_bar(((3, 1),), (3, 1)))
        self.assertEqual(told(row_bar(((3, 1),), (4, 0))), ("bar", ((1,),), (1,), 1))
        self.assertEqual(told(row_bar(((3, 1),), (2, 2))), ("bar", ((2,),), (2,), 1))
        self.assertEqual(told(row_bar(((3, 3, 0, 0),), (3, 2, 1, 0))), ("bar", ((3,),), (3,), 1))
        self.assertEqual(told(row_bar(((3, 2, 1, 0),), (3, 3, 0, 0))), ("bar", ((2,),), (2,), 1))

    def test_all_small_rows(self):
        for factors in itertools.chain(small_rows(SMALL), drawn_rows(random.Random(812), 40, LARGER, 9)):
            wanted = plain_row_shapes(factors)
            for after in shapes_of_sum(len(factors[0]), sum(map(sum, factors))):
                found = told(row_bar(factors, after))
                self.assertEqual(found, plain_broken(factors, after))
                self.assertIs(found is None, after in wanted)

    def test_greater_rows(self):
        chance = random.Random(813)
        for factors in drawn_rows(chance, 25, GREATEST, 9):
            wanted = plain_row_shapes(factors)
            afters = shapes_of_sum(len(factors[0]), sum(map(sum, factors)))
            for after in chance.sample(afters, min(len(afters), 6)):
                found = row_bar(factors, after)
                self.assertEqual(told(found), plain_broken(factors, after))
                self.assertIs(found is None, after in wanted)

    def test_a_bar_of_more_places_is_broken_first(self):
        sizes = {}
        for factors in small_rows(((3, 2, 2), (4, 1, 2))):
            for after in shapes_of_sum(len(factors[0]), sum(map(sum, factors))):
                found = row_bar(factors, after)
                if found is not None:
                    self.assert_tuples((found.what, found.places, found.sums, found.over))
                    self.assertEqual([len(own) for own in found.places], [len(found.sums)] * 2)
                    sizes[len(after), len(found.sums)] = True
        self.assertTrue({(3, 1), (3, 2), (4, 1), (4, 2), (4, 3)}.issuperset(sizes))
        self.assertIn((3, 2), sizes)

    def test_the_same_as_the_shapes_of_greater_rows(self):
        chance = random.Random(814)
        for factors in drawn_rows(chance, 30, ((2, 6, 3), (2, 5, 5), (3, 5, 3), (3, 2, 5), (4, 5, 2), (4, 1, 5)), 24):
            afters = shapes_of_sum(len(factors[0]), sum(map(sum, factors)))
            for after in chance.sample(afters, min(len(afters), 6)):
                self.assertIs(row_bar(factors, after) is None, is_row_shape(factors, after))


class ArgumentsTest(PlainCase):
    def test_wrong_arguments_in_their_order(self):
        for factors, what, index in NO_FACTORS + ((((1, 0),) * 6, "many", 0),):
            self.assert_refused(BadFactors, (what, index), row_bar, factors, None)
        for after, word in ((None, "many"), ("10", "many"), ((), "many"), ((1,), "many"), ((1, 0, 0), "many"),
                            ((True, 0), "number"), ((1, -1), "number"), ((1, 2), "falling")):
            self.assert_refused(BadShape, (word,), row_bar, ((25, 0),), after)
        self.assert_refused(TooMany, (24,), row_bar, ((25, 0),), (25, 0))
        self.assert_refused(TooMany, (24,), row_bar, ((12, 0), (13, 0)), (1, 0))
        self.assert_refused(TooMany, (24,), row_bar, ((BIG,),), (BIG,))
        self.assertIsNone(row_bar(((12, 0), (12, 0)), (20, 4)))

    def test_what_is_passed_stays_and_answers_stay(self):
        factors, after = [[1, 0], [1, 0], [4, 0]], [3, 3]
        first = row_bar(factors, after)
        self.assertEqual(told(row_bar(after=after, factors=factors)), told(first))
        self.assertEqual((factors, after), ([[1, 0], [1, 0], [4, 0]], [3, 3]))
        self.assertIsInstance(first, BrokenRow)

    def test_quick_within_the_bounds(self):
        start = time.perf_counter()
        self.assertIsNone(row_bar(((2, 1, 0, 0),) * 4, (4, 4, 2, 2)))
        self.assertIsNone(row_bar(((1, 1, 0, 0), (2, 0, 0, 0), (2, 1, 0, 0), (1, 1, 1, 0), (2, 0, 0, 0)), (5, 4, 2, 1)))
        self.assertEqual(row_bar(((6, 4, 2, 0), (6, 3, 2, 1)), (12, 8, 2, 2)).what, "bar")
        self.assertIsNone(row_bar(((6, 2, 0), (5, 3, 0), (6, 2, 0)), (10, 8, 6)))
        self.assertIsNone(row_bar(((5, 0), (5, 0), (4, 0), (5, 0), (5, 0)), (13, 11)))
        self.assertLess(time.perf_counter() - start, 30)


if __name__ == "__main__":
    unittest.main()
