import random
import unittest

from tests.plain import (
    NO_PRIMES, NO_SQUARES, PlainCase, drawn_after, drawn_shape, drawn_turned, plain_flipped, plain_product, plain_shape,
    small_fillings,
)
from threeshapes.backfilling import strand_filling
from threeshapes.errors import BadPrime, BadTable, Flat, TooLong, WrongShape
from threeshapes.fillings import Filling, filling_of_chain
from threeshapes.following import ahead_table, following_table, following_tables
from threeshapes.listing import all_fillings, first_filling

PRIMES = (2, 3, 5)
ALL = (following_tables, following_table, ahead_table)
EXAMPLE = Filling((1, 0), (2, 1), ((1, 1), (0,)))
FIVE = filling_of_chain(((0,) * 5, (1, 0, 0, 0, 0)))


def plain_diagonal(prime, shape):
    return [[prime ** part if row == column else 0 for column in range(len(shape))] for row, part in enumerate(shape)]


def small_tables():
    """All small fillings, with their primes and tables of the shape before."""
    chance = random.Random(231)
    for before, _, after, counts in small_fillings(((1, 4), (2, 2), (3, 2), (4, 1))):
        for prime in PRIMES:
            yield prime, drawn_turned(chance, prime, plain_diagonal(prime, before)), Filling(before, after, counts)


def drawn_tables():
    """Fillings of four rows with greater parts, and tables with great numbers."""
    chance = random.Random(232)
    for _ in range(12):
        before, content = drawn_shape(chance, 4, 4), drawn_shape(chance, 4, 4)
        fillings = list(all_fillings(before, content, drawn_after(chance, before, content)))
        for filling in fillings[:2]:
            prime = chance.choice(PRIMES)
            table = drawn_turned(chance, prime, plain_diagonal(prime, before))
            yield prime, drawn_turned(chance, prime, table), filling


class FollowingTest(PlainCase):
    def assert_entries(self, prime, tables, filling):
        """The tables are square, with whole numbers from 0 to M - 1."""
        modulus = prime ** (1 + sum(filling.after))
        size = len(filling.before)
        self.assert_tuples(tables)
        for table in tables:
            self.assertEqual([len(row) for row in table], [size] * size)
            self.assertTrue(all(0 <= number < modulus for row in table for number in row))

    def assert_tables(self, prime, table, filling):
        tables = following_tables(prime, table, filling)
        self.assertEqual(len(tables), len(filling.before))
        self.assert_entries(prime, tables, filling)
        product = table
        for one, shape in zip(tables, filling.chain[1:]):
            product = plain_product(product, one)
            self.assertEqual(plain_shape(prime, product), shape)
        behind = tables[0]
        for one in tables[1:]:
            behind = plain_product(behind, one)
        self.assertEqual(plain_shape(prime, behind), filling.content)

    def assert_table(self, prime, table, filling):
        one = following_table(prime, table, filling)
        self.assert_entries(prime, (one,), filling)
        self.assertEqual(plain_shape(prime, one), filling.content)
        self.assertEqual(plain_shape(prime, plain_product(table, one)), filling.after)
        self.assertTrue(strand_filling(prime, table, one) == filling)

    def assert_ahead(self, prime, table, filling):
        one = ahead_table(prime, table, filling)
        self.assert_entries(prime, (one,), filling)
        self.assertEqual(plain_shape(prime, one), filling.content)
        self.assertEqual(plain_shape(prime, plain_product(one, table)), filling.after)
        self.assertTrue(strand_filling(prime, plain_flipped(table), plain_flipped(one)) == filling)

    def assert_all(self, prime, table, filling):
        self.assert_tables(prime, table, filling)
        self.assert_table(prime, table, filling)
        self.assert_ahead(prime, table, filling)

    def test_example(self):
        for table in (((2, 0), (0, 1)), ((1, 0), (0, 2)), ((0, 2), (1, 0)), ((4, 6), (3, 3)), [[2, 0], [0, 1]]):
            self.assert_all(2, table, EXAMPLE)

    def test_all_small_fillings(self):
        for prime, table, filling in small_tables():
            self.assert_all(prime, table, filling)

    def test_four_rows_with_great_parts(self):
        for prime, table, filling in drawn_tables():
            self.assert_all(prime, table, filling)

    def test_no_letters(self):
        still = Filling((2, 0), (2, 0), ((0, 0), (0,)))
        self.assert_all(2, ((1, 3), (1, 7)), still)
        self.assert_all(3, ((1,),), Filling((0,), (0,), ((0,),)))

    def test_a_content_with_the_sum_400_and_above(self):
        self.assert_table(2, ((6,),), Filling((1,), (401,), ((400,),)))
        self.assert_ahead(5, ((-1,),), Filling((0,), (400,), ((400,),)))
        wide = first_filling((1, 0, 0, 0), (100,) * 4, (101, 100, 100, 100))
        table = ((1, 1, 0, 0), (1, 3, 0, 0), (0, 0, 1, 0), (0, 0, 5, 1))
        for function in ALL:
            self.assert_refused(TooLong, (), function, 2, ((1,),), Filling((0,), (401,), ((401,),)))
            self.assert_refused(TooLong, (), function, 2, table,
                                first_filling((1, 0, 0, 0), (101, 100, 100, 100), (102, 100, 100, 100)))
        self.assert_all(2, table, wide)

    def test_wrong_arguments_in_their_order(self):
        long = Filling((0,), (401,), ((401,),))
        for function in ALL:
            for prime in NO_PRIMES:
                self.assert_refused(BadPrime, (prime,), function, prime, None, long)
            for wrong, word in NO_SQUARES:
                self.assert_refused(BadTable, (word,), function, 2, wrong, long)
            for flat in (((0,),), ((1, 2), (2, 4)), ((0,) * 4,) * 4):
                self.assert_refused(Flat, (), function, 2, flat, long)
            self.assert_refused(WrongShape, (), function, 2, ((2,),), long)
            self.assert_refused(WrongShape, (), function, 2, ((1, 0), (0, 1)), long)
            self.assert_refused(TooLong, (), function, 2, ((3,),), long)
            for table in (((1, 0), (0, 1)), ((4, 0), (0, 1)), ((2, 0), (0, 2)), ((2,),), ((2, 0, 0), (0, 1, 0), (0, 0, 1))):
                self.assert_refused(WrongShape, (), function, 2, table, EXAMPLE)
            self.assert_refused(WrongShape, (), function, 3, ((2, 0), (0, 1)), EXAMPLE)
            self.assert_refused(WrongShape, (), function, 2, ((1,),), FIVE)
            self.assert_refused(WrongShape, (), function, 2, ((1, 0, 0, 0), (0, 1, 0, 0), (0, 0, 1, 0), (0, 0, 0, 1)), FIVE)

    def test_what_is_passed_stays_as_it_was(self):
        table = [[4, 6], [3, 3]]
        for function in ALL:
            self.assertEqual(function(2, table, EXAMPLE), function(2, table, EXAMPLE))
        self.assertEqual(table, [[4, 6], [3, 3]])


if __name__ == "__main__":
    unittest.main()
