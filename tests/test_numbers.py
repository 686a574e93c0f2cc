import unittest

from tests.plain import BIG, PlainCase
from threeshapes.errors import BadPrime
from threeshapes.numbers import check_prime, exponent_of, is_sequence, is_whole, prime_power

NO_NUMBERS = (True, False, None, 2.0, "2", b"2", (2,), [2], 2j, object())


class NumbersTest(PlainCase):
    def test_the_primes_are_returned(self):
        self.assertEqual([check_prime(prime) for prime in (2, 3, 5)], [2, 3, 5])

    def test_other_things_are_no_primes(self):
        for thing in NO_NUMBERS + (0, 1, -2, 4, 6, 7, BIG):
            self.assert_refused(BadPrime, (thing,), check_prime, thing)

    def test_whole_numbers(self):
        for number in (0, 1, -1, BIG, -BIG):
            self.assertIs(is_whole(number), True)
        for thing in NO_NUMBERS:
            self.assertIs(is_whole(thing), False)
            self.assertIs(is_whole(thing, 0), False)

    def test_bounds_of_whole_numbers(self):
        self.assertIs(is_whole(3, 3, 3), True)
        self.assertIs(is_whole(3, 4), False)
        self.assertIs(is_whole(3, None, 2), False)
        self.assertIs(is_whole(3, 0, 2), False)
        self.assertIs(is_whole(-3, high=2), True)
        self.assertIs(is_whole(BIG, low=5), True)
        self.assertIs(is_whole(0, 0), True)
        self.assertIs(is_whole(1, high=0), False)
        self.assertIs(is_whole(-1, low=0), False)

    def test_sequences_are_lists_and_tuples(self):
        for thing in ((), [], (1,), [[]]):
            self.assertIs(is_sequence(thing), True)
        for thing in ("ab", b"ab", {}, {1}, range(3), None, 3, iter([]), frozenset()):
            self.assertIs(is_sequence(thing), False)

    def test_powers(self):
        for number in (2, 3, 5, -3, 0, 1, 10 ** 30):
            for exponent in range(12):
                self.assertEqual(prime_power(number, exponent), number ** exponent)
        self.assertEqual(prime_power(0, 0), 1)
        self.assertEqual(prime_power(3, 2345), 3 ** 2345)

    def test_exponents(self):
        for prime in (2, 3, 5):
            for exponent in (0, 1, 2, 7, 300):
                for rest in (1, -1, 7, -11, 10 ** 300 * 7 ** 5 + 1):
                    while rest % prime == 0:
                        rest += 1
                    self.assertEqual(exponent_of(prime, prime ** exponent * rest), exponent)


if __name__ == "__main__":
    unittest.main()
