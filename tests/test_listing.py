import random
import time
import unittest

from tests.plain import (
    BIG, PlainCase, drawn_after, drawn_shape, falling_rows, keeps_rules, plain_fillings, plain_product, shapes_of_sum,
)
from threeshapes.errors import BadShape, NoFilling
from threeshapes.fillings import Filling
from threeshapes.listing import all_fillings, count_fillings, first_filling, is_product
from threeshapes.shapes import turned_about
from threeshapes.tables import diagonal_of, times_table
from threeshapes.turning import shape_of

FUNCTIONS = (lambda *shapes: list(all_fillings(*shapes)), count_fillings, first_filling, is_product)
STAIRS = tuple(range(23, -1, -1))


def small_threes(size, most):
    """Threes of shapes, the sums of which may be off by one, with parts of the first two to most."""
    for before in falling_rows(size, most):
        for content in falling_rows(size, most):
            total = sum(before) + sum(content)
            for after in falling_rows(size, most + 2):
                if abs(sum(after) - total) <= 1:
                    yield before, content, after


def standard_number(kind):
    """The number of ways to write 1, 2, .. into the kind so that rows and columns ascend, by the hooks."""
    columns = turned_about(kind)
    number = 1
    for at in range(1, sum(kind) + 1):
        number *= at
    hooks = 1
    for row, part in enumerate(kind):
        for column in range(part):
            hooks *= part - column + columns[column] - row - 1
    return number // hooks


class ListingTest(PlainCase):
    def test_example(self):
        found = list(all_fillings((2, 1, 0), (2, 1, 0), (3, 2, 1)))
        self.assertEqual([one.counts for one in found], [((1, 0, 1), (1, 0), (0,)), ((1, 1, 0), (0, 1), (0,))])
        self.assertEqual(count_fillings((2, 1, 0), (2, 1, 0), (3, 2, 1)), 2)
        self.assertTrue(first_filling((2, 1, 0), (2, 1, 0), (3, 2, 1)) == found[0])
        self.assertIs(is_product((2, 1, 0), (2, 1, 0), (3, 2, 1)), True)

    def assert_listed(self, before, content, after):
        """All four functions tell just what the plain count tells; return its number."""
        wanted = plain_fillings(before, content, after)
        found = list(all_fillings(before, content, after))
        self.assertEqual([one.counts for one in found], wanted, (before, content, after))
        for one in found:
            self.assertIs(one.__class__, Filling)
            self.assertEqual((one.before, one.after), (tuple(before), tuple(after)))
            self.assertEqual(one.content, (tuple(content) + (0,) * len(before))[:len(before)])
        self.assertEqual(count_fillings(before, content, after), len(wanted))
        self.assertIs(is_product(before, content, after), len(wanted) > 0)
        if wanted:
            self.assertEqual(first_filling(before, content, after).counts, wanted[0])
        else:
            self.assert_refused(NoFilling, (), first_filling, before, content, after)
        return len(wanted)

    def test_all_small_shapes(self):
        many = 0
        for size, most in ((1, 5), (2, 3), (3, 2)):
            for three in small_threes(size, most):
                many += self.assert_listed(*three)
        self.assertGreater(many, 300)

    def test_all_small_shapes_of_four_parts(self):
        for before in falling_rows(4, 2):
            for content in falling_rows(4, 1) + [(2, 1, 0, 0), (2, 2, 1, 0)]:
                for after in falling_rows(4, 3):
                    if sum(after) == sum(before) + sum(content):
                        self.assert_listed(before, content, after)

    def test_greater_shapes(self):
        chance = random.Random(61)
        greatest = 0
        for _ in range(150):
            size = chance.choice((3, 4, 4, 5, 6))
            most = {3: 9, 4: 6, 5: 4, 6: 2}[size]
            before, content = [drawn_shape(chance, size, most) for _ in range(2)]
            after = drawn_after(chance, before, content)
            greatest = max(greatest, self.assert_listed(before, content, after))
        self.assertGreater(greatest, 5)

    def test_content_with_fewer_or_more_parts(self):
        wanted = [one.counts for one in all_fillings((2, 1, 0), (2, 1, 0), (3, 2, 1))]
        for content in ((2, 1), [2, 1], (2, 1, 0, 0), (2, 1) + (0,) * 22):
            found = [one.counts for one in all_fillings((2, 1, 0), content, (3, 2, 1))]
            self.assertEqual(found, wanted)
            self.assertEqual(count_fillings((2, 1, 0), content, (3, 2, 1)), 2)
        self.assertEqual(count_fillings((3, 0), (1, 1, 1), (4, 2)), 0)
        self.assert_refused(NoFilling, (), first_filling, (3, 0), (1, 1, 1), (4, 2))
        self.assertIs(is_product((0,), (1, 1), (2,)), False)
        self.assertIs(is_product((0,), (2, 0), (2,)), True)

    def test_no_filling_and_no_error(self):
        for three in (((1,), (1,), (3,)), ((1,), (1,), (1,)), ((2,), (0,), (1,)), ((2, 2), (1,), (4, 1)),
                      ((3, 0), (0,), (2, 1)), ((2, 1), (0, 0), (3, 0)), ((0, 0), (1, 1), (2, 0)), ((5,), (0,), (0,))):
            self.assertEqual(list(all_fillings(*three)), [])
            self.assertEqual(count_fillings(*three), 0)
            self.assertIs(is_product(*three), False)
            self.assert_refused(NoFilling, (), first_filling, *three)

    def test_noughts(self):
        still = list(all_fillings((2, 1), (0, 0), (2, 1)))
        self.assertEqual([one.counts for one in still], [((0, 0), (0,))])
        self.assertEqual(count_fillings((0,) * 24, (0,), (0,) * 24), 1)
        self.assertEqual(count_fillings((0, 0), (2, 1), (2, 1)), 1)
        self.assertEqual(count_fillings((0, 0, 0), (2, 1), (3, 0, 0)), 0)

    def test_great_numbers(self):
        before, content, after = (3 * BIG, BIG), (BIG, 0), (4 * BIG, BIG)
        self.assertEqual(count_fillings(before, content, after), 1)
        self.assertEqual(first_filling(before, content, after).counts, ((BIG, 0), (0,)))
        self.assertEqual(count_fillings((BIG,) * 4, (2, 1), (BIG + 2, BIG + 1, BIG, BIG)), 1)
        self.assertEqual(count_fillings((BIG + 2, BIG + 1, BIG), (2, 1), (BIG + 3, BIG + 2, BIG + 1)), 2)

    def test_nothing_passed_is_changed(self):
        before, content, after = [2, 1, 0], [2, 1], [3, 2, 1]
        for function in FUNCTIONS:
            function(before, content, after)
            self.assertEqual((before, content, after), ([2, 1, 0], [2, 1], [3, 2, 1]))
        one = first_filling(before, content, after)
        before[0] = after[0] = 9
        self.assertEqual((one.before, one.after), ((2, 1, 0), (3, 2, 1)))


class ListingErrorsTest(PlainCase):
    def test_each_argument(self):
        for function in FUNCTIONS:
            for wrong, word in ((None, "many"), ("21", "many"), ((), "many"), ((1,) * 25, "many"), ((True,), "number"),
                                ((1, -1), "number"), ([1.0], "number"), ((1, 2), "falling")):
                self.assert_refused(BadShape, (word,), function, wrong, (1,), (1,))
                self.assert_refused(BadShape, (word,), function, (1,), wrong, (1,))
                self.assert_refused(BadShape, (word,), function, (1,), (1,), wrong)

    def test_the_order_of_the_arguments(self):
        for function in FUNCTIONS:
            self.assert_refused(BadShape, ("falling",), function, (1, 2), (True,), ())
            self.assert_refused(BadShape, ("number",), function, (2, 1), (True,), ())
            self.assert_refused(BadShape, ("number",), function, (2, 1), (1,), (False,))
            self.assert_refused(BadShape, ("falling",), function, (2, 1), (1,), (1, 2, 3))

    def test_unlike_lengths(self):
        for function in FUNCTIONS:
            self.assert_refused(BadShape, ("many",), function, (2, 1), (1,), (3,))
            self.assert_refused(BadShape, ("many",), function, (2,), (1, 0), (2, 1))


class QuicknessTest(PlainCase):
    """Cases near the bounds of [2.4]; a program that tries all counts would not end."""

    def setUp(self):
        self.start = time.perf_counter()

    def tearDown(self):
        self.assertLess(time.perf_counter() - self.start, 60)

    def test_four_rows_with_parts_up_to_sixty(self):
        before, content, after = (40, 26, 13, 0), (40, 26, 13, 0), (60, 46, 33, 19)
        number = count_fillings(before, content, after)
        found = [one.counts for one in all_fillings(before, content, after)]
        self.assertEqual(len(found), number)
        self.assertGreater(number, 1000)
        self.assertTrue(all(one < other for one, other in zip(found, found[1:])))
        for counts in found[::50]:
            self.assertTrue(keeps_rules(before, counts, after))
        # A part of four parts to sixty that is broken by one.
        self.assertIs(is_product((30, 20, 10, 0), (30, 20, 10, 0), (60, 41, 19, 0)), False)
        self.assertIs(is_product((30, 20, 10, 0), (30, 20, 10, 0), (60, 40, 20, 0)), True)
        self.assertIs(is_product((60, 60, 0, 0), (30, 30, 30, 0), (60, 60, 45, 45)), False)

    def test_twenty_four_rows_with_a_content_of_twelve(self):
        for kind in ((5, 3, 2, 1, 1), (6, 3, 2, 1), (1,) * 12, (12,), (4, 4, 4)):
            for places in (range(0, 24, 2), range(12)):
                after = tuple(part + (1 if at in places else 0) for at, part in enumerate(STAIRS))
                self.assertEqual(count_fillings(STAIRS, kind, after), standard_number(kind))
                self.assertEqual(first_filling(STAIRS, kind, after).content, kind + (0,) * (24 - len(kind)))

    def test_all_fillings_of_twenty_four_rows(self):
        after = tuple(part + (1 if at % 2 else 0) for at, part in enumerate(STAIRS))
        found = [one.counts for one in all_fillings(STAIRS, (8, 3, 1), after)]
        self.assertEqual(len(found), standard_number((8, 3, 1)))
        self.assertTrue(all(one < other for one, other in zip(found, found[1:])))
        self.assertTrue(all(keeps_rules(STAIRS, counts, after) for counts in found[::100]))

    def test_twenty_four_rows_without_a_filling(self):
        self.assertIs(is_product((1,) * 24, (12,), (2,) * 12 + (1,) * 12), False)
        self.assertIs(is_product(STAIRS, (1,) * 12, tuple(part + 1 for part in STAIRS[:12]) + STAIRS[12:]), True)
        self.assertIs(is_product((0,) * 24, (1,) * 12, (12,) + (0,) * 23), False)
        self.assertIs(is_product((0,) * 24, (1,) * 12, (1,) * 12 + (0,) * 12), True)


class NumbersOfFillingsTest(PlainCase):
    """What [2.5] says of the numbers."""

    def threes(self):
        chance = random.Random(71)
        for size, most in ((1, 6), (2, 5), (3, 5), (4, 4)):
            for _ in range(60):
                a, b = [drawn_shape(chance, size, most) for _ in range(2)]
                yield a, b, drawn_after(chance, a, b)
                yield a, b, chance.choice(shapes_of_sum(size, sum(a) + sum(b)))

    def test_before_and_content_may_be_exchanged(self):
        for a, b, c in self.threes():
            self.assertEqual(count_fillings(a, b, c), count_fillings(b, a, c))

    def test_turned_about(self):
        for a, b, c in self.threes():
            if max(c[0], a[0], b[0]) <= 24 and sum(b) <= 12:
                length = max(a[0], b[0], c[0], 1)
                turned = [turned_about(shape, length) for shape in (a, b, c)]
                self.assertEqual(count_fillings(*turned), count_fillings(a, b, c))

    def test_taken_from_a_great_number(self):
        for a, b, c in self.threes():
            for most in (max(c[0], a[0]), c[0] + a[0] + 1):
                taken = [tuple(most - part for part in shape[::-1]) for shape in (c, a)]
                self.assertEqual(count_fillings(b, *taken), count_fillings(a, b, c))

    def test_taken_from_two_great_numbers(self):
        for a, b, c in self.threes():
            for k, m in ((b[0], max(a[0], c[0] - b[0])), (max(b[0], c[0] - a[0]) + 1, a[0])):
                taken = [tuple(most - part for part in shape[::-1]) for most, shape in ((k, b), (m, a), (k + m, c))]
                self.assertEqual(count_fillings(*taken), count_fillings(a, b, c))

    def test_stretched_numbers_are_nought_together(self):
        for a, b, c in self.threes():
            for by in (2, 3):
                stretched = [tuple(part * by for part in shape) for shape in (a, b, c)]
                self.assertIs(is_product(*stretched), is_product(a, b, c))

    def test_products_of_tables_have_a_filling(self):
        chance = random.Random(72)
        for _ in range(200):
            size = chance.randint(1, 4)
            prime = chance.choice((2, 3, 5))
            one, other = [
                [[chance.randint(-3, 3) * chance.choice((1, 1, prime, prime ** 2)) for _ in range(size)]
                 for _ in range(size)]
                for _ in range(2)
            ]
            product = plain_product(one, other)
            if any(all(number == 0 for number in row) for row in one + other + list(product)):
                continue
            try:
                shapes = [shape_of(prime, table) for table in (one, other, product)]
            except ValueError:
                continue
            self.assertIs(is_product(*shapes), True, (prime, one, other))

    def test_fillings_have_tables(self):
        for before in falling_rows(3, 2):
            for content in falling_rows(3, 2):
                for after in shapes_of_sum(3, sum(before) + sum(content)):
                    for one in all_fillings(before, content, after):
                        for prime in (2, 3):
                            self.assert_tables(prime, one)

    def assert_tables(self, prime, filling):
        """Multiply a diagonal table by one table for each letter; its shapes are the chain."""
        size = len(filling.before)
        product = diagonal_of([prime ** part for part in filling.before])
        letters = diagonal_of([1] * size)
        for at, row in enumerate(filling.counts):
            table = [list(line) for line in diagonal_of([1] * at + [prime ** number for number in row])]
            for line in range(at, size - 1):
                table[line][line + 1] = 1
            product = times_table(product, table)
            letters = times_table(letters, table)
            self.assertEqual(shape_of(prime, product), filling.chain[at + 1])
        self.assertEqual(shape_of(prime, letters), filling.content)


if __name__ == "__main__":
    unittest.main()
