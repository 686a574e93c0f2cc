import random
import time
import unittest

from tests.plain import BIG, PlainCase, drawn_after, drawn_shape, falling_rows, plain_fillings, shapes_of_sum
from threeshapes.bars import first_bar
from threeshapes.errors import BadShape, BadStretch, NoPart, TooMany
from threeshapes.listing import count_fillings, is_product
from threeshapes.productshapes import (
    factor_shapes, greatest_product, least_product, part_range, product_shapes, stretched_number,
)
from threeshapes.shapes import is_above

WRONG = ((None, "many"), ("21", "many"), ((), "many"), ((1,) * 5, "many"), ((True, 0), "number"), ((1, -1), "number"),
         ((1.0, 0), "number"), ((1, 2), "falling"))
TWO_SHAPES = (product_shapes, factor_shapes, greatest_product, least_product, lambda a, b: part_range(a, b, 0))


def small_couples():
    for length, most in ((1, 5), (2, 4), (3, 2), (4, 1)):
        for a in falling_rows(length, most):
            for b in falling_rows(length, most):
                yield a, b


def drawn_couples(many):
    chance = random.Random(101)
    for _ in range(many):
        length = chance.randint(1, 4)
        yield tuple(drawn_shape(chance, length, {1: 20, 2: 10, 3: 6, 4: 4}[length]) for _ in range(2))


class ProductShapesTest(PlainCase):
    def test_example(self):
        found = product_shapes((2, 1, 0), (2, 1, 0))
        self.assertEqual(found, ((2, 2, 2), (3, 2, 1), (3, 3, 0), (4, 1, 1), (4, 2, 0)))

    def test_all_small_shapes(self):
        for a, b in small_couples():
            total = sum(a) + sum(b)
            wanted = tuple(c for c in shapes_of_sum(len(a), total) if plain_fillings(a, b, c))
            found = product_shapes(a, b)
            self.assertEqual(found, wanted)
            self.assertGreater(len(found), 0)
            self.assert_tuples(found)
            self.assertEqual(product_shapes(list(a), list(b)), wanted)

    def test_drawn_shapes(self):
        for a, b in drawn_couples(40):
            wanted = tuple(c for c in shapes_of_sum(len(a), sum(a) + sum(b)) if is_product(a, b, c))
            self.assertEqual(product_shapes(a, b), wanted)
            self.assertEqual(wanted, tuple(c for c in shapes_of_sum(len(a), sum(a) + sum(b))
                                           if first_bar(a, b, c) is None))

    def test_factor_shapes(self):
        for a, c in small_couples():
            rest = sum(c) - sum(a)
            wanted = () if rest < 0 else tuple(b for b in shapes_of_sum(len(a), rest) if plain_fillings(a, b, c))
            found = factor_shapes(a, c)
            self.assertEqual(found, wanted)
            self.assert_tuples(found)
        self.assertEqual(factor_shapes([2, 1, 0], [3, 2, 1]), ((1, 1, 1), (2, 1, 0), (3, 0, 0)))
        self.assertEqual(factor_shapes((2, 0), (1, 1)), ())
        self.assertEqual(factor_shapes((3, 3), (1, 1)), ())
        self.assertEqual(factor_shapes((2, 1), (2, 1)), ((0, 0),))

    def test_factors_and_products_belong_together(self):
        for a, b in drawn_couples(25):
            for c in product_shapes(a, b)[::3]:
                self.assertIn(b, factor_shapes(a, c))
                self.assertIn(a, factor_shapes(b, c))

    def test_sums_at_forty_and_above(self):
        start = time.perf_counter()
        found = product_shapes((12, 8, 4, 0), (8, 5, 3, 0))
        self.assertEqual(found[0], least_product((12, 8, 4, 0), (8, 5, 3, 0)))
        self.assertEqual(found[-1], greatest_product((12, 8, 4, 0), (8, 5, 3, 0)))
        for c in found[::10]:
            self.assertGreater(count_fillings((12, 8, 4, 0), (8, 5, 3, 0), c), 0)
        self.assertEqual(len(factor_shapes((0, 0, 0, 0), (16, 12, 8, 4))), 1)
        self.assertGreater(len(factor_shapes((9, 6, 3, 2), (16, 12, 8, 4))), 50)
        self.assertEqual(product_shapes((40,), (0,)), ((40,),))
        self.assertLess(time.perf_counter() - start, 60)
        self.assert_refused(TooMany, (40,), product_shapes, (12, 8, 4, 0), (8, 5, 3, 1))
        self.assert_refused(TooMany, (40,), product_shapes, (41,), (0,))
        self.assert_refused(TooMany, (40,), product_shapes, (0,), (BIG,))
        self.assert_refused(TooMany, (40,), factor_shapes, (0, 0), (21, 20))
        self.assert_refused(TooMany, (40,), factor_shapes, (BIG,), (BIG,))
        self.assertEqual(factor_shapes((BIG, 1), (20, 20)), ())
        self.assertEqual(factor_shapes((20, 20), (20, 20)), ((0, 0),))


class WrongShapesTest(PlainCase):
    def test_each_shape(self):
        for function in TWO_SHAPES:
            for wrong, word in WRONG:
                self.assert_refused(BadShape, (word,), function, wrong, (1, 0))
                self.assert_refused(BadShape, (word,), function, (1, 0), wrong)
            self.assert_refused(BadShape, ("many",), function, (1,) * 5, (1,) * 5)
            self.assert_refused(BadShape, ("many",), function, (1,) * 5, (1, 2))
            self.assert_refused(BadShape, ("falling",), function, (1, 2), (True,))
            self.assert_refused(BadShape, ("number",), function, (True,), (1, 2))

    def test_unlike_lengths_come_ahead_of_the_rest(self):
        for function in TWO_SHAPES:
            self.assert_refused(BadShape, ("many",), function, (1, 0), (1,))
            self.assert_refused(BadShape, ("many",), function, (41,), (41, 41))
            self.assert_refused(BadShape, ("number",), function, (41,), (None,))

    def test_three_shapes(self):
        for wrong, word in WRONG:
            self.assert_refused(BadShape, (word,), stretched_number, wrong, (1, 0), (1, 0), 7)
            self.assert_refused(BadShape, (word,), stretched_number, (1, 0), wrong, (1, 0), 7)
            self.assert_refused(BadShape, (word,), stretched_number, (1, 0), (1, 0), wrong, 7)
        self.assert_refused(BadShape, ("number",), stretched_number, (1, 0), (True,), (1, 2), 7)
        self.assert_refused(BadShape, ("many",), stretched_number, (1, 0), (1, 0), (2,), 7)
        self.assert_refused(BadShape, ("many",), stretched_number, (1,) * 5, (1,) * 5, (2,) * 5, 1)
        self.assert_refused(BadShape, ("many",), stretched_number, (1,), (1, 0), (2, 0), True)


class BoundsTest(PlainCase):
    def test_few_of_them(self):
        self.assertEqual(greatest_product((2, 1, 0), [2, 1, 0]), (4, 2, 0))
        self.assertEqual(least_product([2, 1, 0], (2, 1, 0)), (2, 2, 2))
        self.assertEqual(least_product((5, 0, 0), (1, 1, 0)), (5, 1, 1))
        self.assertEqual(greatest_product((BIG,), (BIG,)), (2 * BIG,))
        self.assertEqual(least_product((BIG, 0), (BIG, 1)), (BIG + 1, BIG))
        self.assertEqual(part_range((2, 1, 0), (2, 1, 0), 1), (2, 4))
        self.assertEqual(part_range([2, 1, 0], [2, 1, 0], 2), (1, 3))
        self.assertEqual(part_range((2, 1, 0), (2, 1, 0), part=3), (0, 2))
        self.assertEqual(part_range((BIG, 1), (BIG, 0), 1), (BIG + 1, 2 * BIG))
        self.assertEqual(part_range((4,), (5,), 1), (9, 9))
        self.assert_tuples((greatest_product([1], [1]), least_product([1], [1]), part_range([1], [1], 1)))

    def test_over_all_product_shapes(self):
        for a, b in list(small_couples()) + list(drawn_couples(40)):
            found = product_shapes(a, b)
            least, greatest = least_product(a, b), greatest_product(a, b)
            self.assertIn(least, found)
            self.assertIn(greatest, found)
            for c in found:
                self.assertTrue(is_above(c, least))
                self.assertTrue(is_above(greatest, c))
            for part in range(1, len(a) + 1):
                numbers = [c[part - 1] for c in found]
                self.assertEqual(part_range(a, b, part), (min(numbers), max(numbers)))

    def test_no_part(self):
        for part in (0, 4, -1, True, None, 1.0, "1", BIG):
            self.assert_refused(NoPart, (part,), part_range, (2, 1, 0), (2, 1, 0), part)
        self.assert_refused(NoPart, (2,), part_range, (2,), (2,), 2)

    def test_nothing_passed_is_changed(self):
        a, b, c = [2, 1, 0], [2, 1, 0], [3, 2, 1]
        for call in (lambda: product_shapes(a, b), lambda: factor_shapes(a, c), lambda: greatest_product(a, b),
                     lambda: least_product(a, b), lambda: part_range(a, b, 1), lambda: stretched_number(a, b, c, 2)):
            call()
            self.assertEqual((a, b, c), ([2, 1, 0], [2, 1, 0], [3, 2, 1]))


class StretchedNumberTest(PlainCase):
    def test_example(self):
        numbers = [stretched_number((2, 1, 0), (2, 1, 0), (3, 2, 1), by) for by in range(7)]
        self.assertEqual(numbers, [1, 2, 3, 4, 5, 6, 7])

    def test_all_small_shapes(self):
        for length, most, stretches in ((1, 3, (1, 2, 3)), (2, 2, (1, 2, 3)), (3, 1, (1, 2)), (3, 2, (1,))):
            for a in falling_rows(length, most):
                for b in falling_rows(length, most):
                    for c in shapes_of_sum(length, sum(a) + sum(b)):
                        for by in stretches:
                            wide = [tuple(by * part for part in shape) for shape in (a, b, c)]
                            self.assertEqual(stretched_number(a, b, c, by), len(plain_fillings(*wide)))

    def test_how_the_numbers_grow(self):
        chance = random.Random(111)
        seen = {}
        for _ in range(300):
            length = chance.choice((1, 2, 3, 3, 4, 4, 4))
            a, b = [drawn_shape(chance, length, 4) for _ in range(2)]
            c = chance.choice((drawn_after(chance, a, b), chance.choice(shapes_of_sum(length, sum(a) + sum(b)))))
            n = [stretched_number(list(a), b, c, by=by) for by in range(7)]
            seen[n[1]] = True
            self.assertEqual(n[0], 1)
            if n[1] == 0:
                self.assertEqual(n[1:], [0] * 6)
                continue
            if n[1] == 1:
                self.assertEqual(n, [1] * 7)
            if n[1] == 2:
                self.assertEqual(n, [1, 2, 3, 4, 5, 6, 7])
            if length == 3:
                self.assertEqual(n, [1 + t * (n[1] - 1) for t in range(7)])
            for t in range(3):
                self.assertEqual(n[t + 4], 4 * n[t + 3] - 6 * n[t + 2] + 4 * n[t + 1] - n[t])
        self.assertGreaterEqual(len(seen), 4)

    def test_sums_that_do_not_fit(self):
        self.assertEqual([stretched_number((1,), (1,), (3,), by) for by in range(4)], [1, 0, 0, 0])
        self.assertEqual([stretched_number((2, 0), (0, 0), (1, 1), by) for by in range(4)], [1, 0, 0, 0])

    def test_parts_near_forty(self):
        numbers = [stretched_number((4, 3, 1, 0), (4, 2, 1, 0), (6, 4, 3, 2), by) for by in range(7)]
        self.assertGreater(numbers[6], 20)
        self.assertEqual(numbers[6], 4 * numbers[5] - 6 * numbers[4] + 4 * numbers[3] - numbers[2])

    def test_no_bound_on_the_sums(self):
        self.assertEqual(stretched_number((40, 27, 13, 0), (1, 1, 0, 0), (41, 28, 13, 0), 1), 1)
        self.assertEqual(stretched_number((BIG,), (BIG,), (2 * BIG,), 6), 1)

    def test_wrong_stretches(self):
        for by in (-1, 7, True, False, None, 1.0, "1", BIG):
            self.assert_refused(BadStretch, (by,), stretched_number, (1, 0), (1, 0), (2, 0), by)


if __name__ == "__main__":
    unittest.main()
