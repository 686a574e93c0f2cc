import itertools
import random
import unittest

from tests.plain import BIG, NO_SEQUENCES, NO_WHOLE, PlainCase
from threeshapes.errors import BadMany, BadPoly
from threeshapes.polys import make_poly, p_count, poly_at, poly_minus, poly_plus, poly_times, shift_poly

POLYS = ((), (1,), (-1,), (0, 1), (1, 1), (-1, -1), (3, 0, -2), (0, 0, 0, 5), (1, -2, 1), (2, 1, 2), (BIG, -BIG), (0, -1, 0, 2))


def plain_value(poly, number):
    return sum(own * number ** at for at, own in enumerate(poly))


def plain_p_count(many, taken, prime):
    """How many rooms within of so many ones a room of many ones has: how many rows of unlike members make one."""
    above = below = 1
    for at in range(taken):
        above *= prime ** many - prime ** at
        below *= prime ** taken - prime ** at
    assert above % below == 0
    return above // below


class PolyTest(PlainCase):
    def assert_poly(self, poly):
        self.assert_tuples(poly)
        self.assertTrue(poly == () or poly[-1] != 0)

    def test_make(self):
        for numbers, poly in (((), ()), ([], ()), ([0], ()), ((0, 0, 0), ()), ([1, 2, 0], (1, 2)), ((0, 1, 0, 0), (0, 1)),
                              ([-1, 0, -3], (-1, 0, -3)), ((BIG, 0), (BIG,))):
            self.assertEqual(make_poly(numbers), poly)
            self.assert_poly(make_poly(numbers))
        for wrong in NO_SEQUENCES:
            self.assert_refused(BadPoly, (), make_poly, wrong)
        for wrong in NO_WHOLE:
            self.assert_refused(BadPoly, (), make_poly, [1, wrong])
            self.assert_refused(BadPoly, (), make_poly, (wrong, 0))

    def test_make_keeps_nothing(self):
        numbers = [1, 0, 2, 0]
        poly = make_poly(numbers)
        self.assertEqual(numbers, [1, 0, 2, 0])
        numbers[0] = 7
        self.assertEqual(poly, (1, 0, 2))

    def test_plus_minus_and_times(self):
        for one in POLYS:
            for other in POLYS:
                for function, wanted in (
                    (poly_plus, lambda x: plain_value(one, x) + plain_value(other, x)),
                    (poly_minus, lambda x: plain_value(one, x) - plain_value(other, x)),
                    (poly_times, lambda x: plain_value(one, x) * plain_value(other, x)),
                ):
                    found = function(one, other)
                    self.assert_poly(found)
                    # More values than the degree has steps tell a poly.
                    for x in range(-5, 6):
                        self.assertEqual(plain_value(found, x), wanted(x))
        self.assertEqual(poly_plus((1, 2, 3), (-1, -2, -3)), ())
        self.assertEqual(poly_plus((1, 2, 3), (0, 0, -3)), (1, 2))
        self.assertEqual(poly_minus((), (1, 1)), (-1, -1))
        self.assertEqual(poly_times((1, 1), (-1, 1)), (-1, 0, 1))

    def test_value(self):
        for poly in POLYS:
            for number in (-BIG, -2, -1, 0, 1, 2, 3, 5, BIG):
                self.assertEqual(poly_at(poly, number), plain_value(poly, number))
        self.assertEqual(poly_at((), 7), 0)

    def test_shift(self):
        for poly in POLYS:
            for by in (-3, -1, 0, 1, 2, 10 ** 20):
                found = shift_poly(poly, by)
                self.assert_poly(found)
                self.assertEqual(len(found), len(poly))
                for x in range(-5, 6):
                    self.assertEqual(plain_value(found, x), plain_value(poly, x + by))
        self.assertEqual(shift_poly((0, 0, 1), 1), (1, 2, 1))
        self.assertEqual(shift_poly((3, 0, 1), 0), (3, 0, 1))

    def test_long_polys(self):
        chance = random.Random(271)
        one = tuple(chance.randint(-9, 9) for _ in range(150)) + (1,)
        other = tuple(chance.randint(-9, 9) for _ in range(120)) + (1,)
        for x in (-2, 3):
            self.assertEqual(poly_at(poly_times(one, other), x), plain_value(one, x) * plain_value(other, x))
            self.assertEqual(poly_at(shift_poly(other, 2), x), plain_value(other, x + 2))


class PCountTest(PlainCase):
    def test_against_the_numbers_at_the_primes(self):
        for many in range(13):
            for taken in range(many + 1):
                poly = p_count(many, taken)
                self.assert_tuples(poly)
                self.assertEqual(len(poly), taken * (many - taken) + 1)
                for x in (2, 3, 5, 7):
                    self.assertEqual(plain_value(poly, x), plain_p_count(many, taken, x))
                # Of the exponents, there are as many as there are ways to take so many ones.
                self.assertEqual(sum(poly), len(list(itertools.combinations(range(many), taken))))
                self.assertEqual(poly, poly[::-1])
        self.assertEqual(p_count(4, 2), (1, 1, 2, 1, 1))

    def test_none_all_and_out_of_bounds(self):
        for many in range(13):
            self.assertEqual(p_count(many, 0), (1,))
            self.assertEqual(p_count(many, many), (1,))
            for taken in (-1, -BIG, many + 1, BIG):
                self.assertEqual(p_count(many, taken), ())

    def test_wrong_arguments_in_their_order(self):
        for many in NO_WHOLE + (-1, 13, BIG, -BIG):
            self.assert_refused(BadMany, (many,), p_count, many, "x")
        for taken in NO_WHOLE:
            self.assert_refused(BadMany, (taken,), p_count, 12, taken)
            self.assert_refused(BadMany, (taken,), p_count, 0, taken)


if __name__ == "__main__":
    unittest.main()
