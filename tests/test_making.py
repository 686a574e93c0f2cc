import random
import unittest

from tests.plain import (
    BIG, NO_PRIMES, NO_SHAPES, NO_SQUARES, NO_WHOLE, PlainCase, drawn_inverses, drawn_invertible, plain_product,
    plain_shape, small_fillings,
)
from threeshapes.errors import BadPrime, BadShape, NoLetter, TooLong
from threeshapes.fillings import Filling, filling_of_chain
from threeshapes.listing import first_filling
from threeshapes.making import diagonal_table, letter_table, made_chain, made_tables, product_fault

PRIMES = (2, 3, 5)
SIZES = ((1, 4), (2, 3), (3, 2), (4, 1))
EXAMPLE = Filling((1, 0), (2, 1), ((1, 1), (0,)))
FIVE = Filling((0,) * 5, (1,) + (0,) * 4, ((1, 0, 0, 0, 0), (0, 0, 0, 0), (0, 0, 0), (0, 0), (0,)))
FOUR = first_filling((3, 2, 1, 0), (3, 2, 1, 0), (4, 3, 3, 2))


class DiagonalTableTest(PlainCase):
    def test_powers_in_their_order(self):
        self.assertEqual(diagonal_table(2, (3, 1, 0)), ((8, 0, 0), (0, 2, 0), (0, 0, 1)))
        self.assertEqual(diagonal_table(3, [2]), ((9,),))
        self.assertEqual(diagonal_table(5, (0, 0)), ((1, 0), (0, 1)))
        self.assertEqual(diagonal_table(5, (2, 1, 1, 0))[3], (0, 0, 0, 1))
        self.assertEqual(diagonal_table(2, (1000,)), ((2 ** 1000,),))
        self.assert_tuples(diagonal_table(2, [2, 1]))

    def test_wrong_arguments_in_their_order(self):
        for prime in NO_PRIMES:
            self.assert_refused(BadPrime, (prime,), diagonal_table, prime, None)
        for wrong, word in NO_SHAPES:
            self.assert_refused(BadShape, (word,), diagonal_table, 2, wrong)
        self.assert_refused(BadShape, ("many",), diagonal_table, 2, (1,) * 5)

    def test_what_is_passed_stays_as_it_was(self):
        shape = [2, 1]
        self.assertEqual(diagonal_table(3, shape), diagonal_table(3, shape))
        self.assertEqual(shape, [2, 1])


class LetterTableTest(PlainCase):
    def test_example(self):
        self.assertEqual(letter_table(2, EXAMPLE, 1), ((2, 1), (0, 2)))
        self.assertEqual(letter_table(2, EXAMPLE, 2), ((1, 0), (0, 1)))

    def test_every_place(self):
        counts = FOUR.counts
        for prime in PRIMES:
            for letter in (1, 2, 3, 4):
                table = letter_table(prime, FOUR, letter)
                self.assert_tuples(table)
                for row in range(1, 5):
                    for column in range(1, 5):
                        wanted = 0
                        if row == column:
                            wanted = 1 if row < letter else prime ** counts[letter - 1][row - letter]
                        elif column == row + 1 and letter <= row <= 3:
                            wanted = 1
                        self.assertEqual(table[row - 1][column - 1], wanted, (letter, row, column))

    def test_one_row(self):
        self.assertEqual(letter_table(3, Filling((2,), (6,), ((4,),)), 1), ((81,),))
        self.assertEqual(letter_table(3, Filling((2,), (2,), ((0,),)), 1), ((1,),))

    def test_wrong_arguments_in_their_order(self):
        for prime in NO_PRIMES:
            self.assert_refused(BadPrime, (prime,), letter_table, prime, FIVE, 0)
        for letter in (0, 3, -1, BIG) + NO_WHOLE:
            self.assert_refused(NoLetter, (letter,), letter_table, 2, EXAMPLE, letter)
        self.assert_refused(NoLetter, (6,), letter_table, 2, FIVE, 6)
        for letter in range(1, 6):
            self.assert_refused(TooLong, (), letter_table, 2, FIVE, letter)
        long = filling_of_chain([[0] * 24, [1] + [0] * 23])
        self.assert_refused(NoLetter, (25,), letter_table, 2, long, 25)
        self.assert_refused(TooLong, (), letter_table, 2, long, 24)


class MadeTest(PlainCase):
    def test_example(self):
        self.assertEqual(made_tables(2, EXAMPLE), (((2, 0), (0, 1)), ((2, 1), (0, 2))))
        self.assertEqual(made_chain(2, EXAMPLE), (((2, 0), (0, 1)), ((4, 2), (0, 2)), ((4, 2), (0, 2))))

    def test_all_small_fillings(self):
        for before, content, after, counts in small_fillings(SIZES):
            filling = Filling(before, after, counts)
            for prime in PRIMES:
                chain = made_chain(prime, filling)
                one, other = made_tables(prime, filling)
                self.assertEqual(len(chain), len(before) + 1)
                self.assertEqual(tuple(plain_shape(prime, table) for table in chain), filling.chain)
                self.assertEqual(plain_shape(prime, one), before)
                self.assertEqual(plain_shape(prime, other), content)
                self.assertEqual(plain_shape(prime, plain_product(one, other)), after)
                self.assert_tuples((chain, one, other))

    def test_the_tables_multiply_out(self):
        for filling in (EXAMPLE, FOUR, Filling((1,), (4,), ((3,),))):
            for prime in PRIMES:
                one, other = made_tables(prime, filling)
                letters = [letter_table(prime, filling, at + 1) for at in range(len(filling.before))]
                product = diagonal_table(prime, filling.before)
                chain = [product]
                for letter in letters:
                    product = plain_product(product, letter)
                    chain.append(product)
                self.assertEqual(made_chain(prime, filling), tuple(chain))
                self.assertEqual(one, chain[0])
                self.assertEqual(plain_product(one, other), chain[-1])
                behind = letters[0]
                for letter in letters[1:]:
                    behind = plain_product(behind, letter)
                self.assertEqual(other, behind)

    def test_four_rows_with_great_parts(self):
        for before, content, after in (((9, 5, 2, 0), (7, 6, 1, 0), (13, 9, 6, 2)), ((4, 4, 1, 1), (5, 3, 3, 0), (8, 6, 4, 3)),
                                       ((100, 0, 0, 0), (50, 50, 0, 0), (100, 50, 50, 0))):
            filling = first_filling(before, content, after)
            for prime in PRIMES:
                self.assertEqual(tuple(plain_shape(prime, table) for table in made_chain(prime, filling)), filling.chain)
                one, other = made_tables(prime, filling)
                self.assertIsNone(product_fault(prime, one, other, filling))

    def test_wrong_arguments_in_their_order(self):
        for function in (made_chain, made_tables):
            for prime in NO_PRIMES:
                self.assert_refused(BadPrime, (prime,), function, prime, FIVE)
            self.assert_refused(TooLong, (), function, 2, FIVE)
            self.assert_refused(TooLong, (), function, 3, filling_of_chain([[0] * 24, [1] + [0] * 23]))

    def test_asked_twice(self):
        for function in (made_chain, made_tables):
            self.assertEqual(function(5, FOUR), function(5, FOUR))
        self.assertEqual(FOUR, first_filling((3, 2, 1, 0), (3, 2, 1, 0), (4, 3, 3, 2)))


class ProductFaultTest(PlainCase):
    def test_right_tables(self):
        chance = random.Random(201)
        for before, _, after, counts in small_fillings(((1, 3), (2, 2), (3, 1))):
            filling = Filling(before, after, counts)
            for prime in PRIMES:
                one, other = made_tables(prime, filling)
                self.assertIsNone(product_fault(prime, one, other, filling))
                lists = [[list(row) for row in table] for table in (one, other)]
                self.assertIsNone(product_fault(prime, *lists, filling))
                self.assertEqual(lists, [[list(row) for row in table] for table in (one, other)])
                ahead, back = drawn_inverses(chance, len(before))
                first = drawn_invertible(chance, prime, len(before))
                last = drawn_invertible(chance, prime, len(before))
                one = plain_product(first, plain_product(one, ahead))
                other = plain_product(back, plain_product(other, last))
                self.assertIsNone(product_fault(prime, one, other, filling))

    def test_one_and_other(self):
        one, other = made_tables(2, EXAMPLE)
        for wrong in [thing for thing, _ in NO_SQUARES] + [
            ((2,),), ((2, 0, 0), (0, 1, 0), (0, 0, 1)), ((0, 0), (0, 0)), ((1, 2), (2, 4)), ((1, 0), (0, 1)),
            ((8, 0), (0, 1)), ((2, 0), (0, 2)), ((6, 0), (0, 0)),
        ]:
            self.assertEqual(product_fault(2, wrong, other, EXAMPLE), "one")
            self.assertEqual(product_fault(2, one, wrong, EXAMPLE), "other")
            self.assertEqual(product_fault(2, wrong, wrong, EXAMPLE), "one")
        self.assertEqual(product_fault(2, ((4, 0), (0, 1)), other, EXAMPLE), "one")
        # Long tables of the right shapes.
        self.assertEqual(product_fault(2, ((2, 0, 4), (0, 1, 7)), other, EXAMPLE), "one")
        self.assertEqual(product_fault(2, one, ((2, 1, 0), (0, 2, 0)), EXAMPLE), "other")
        self.assertEqual(product_fault(2, one, ((2, 0), (0, 1)), EXAMPLE), "other")
        self.assertEqual(product_fault(3, one, other, EXAMPLE), "one")

    def test_product(self):
        one, _ = made_tables(2, EXAMPLE)
        # The content is (2, 0), and so is the shape of both; the product of the first has the shape (3, 0).
        self.assertEqual(EXAMPLE.content, (2, 0))
        self.assertEqual(product_fault(2, one, ((4, 0), (0, 1)), EXAMPLE), "product")
        self.assertIsNone(product_fault(2, one, ((4, 1), (0, 1)), Filling((1, 0), (3, 0), ((2, 0), (0,)))))
        self.assertIsNone(product_fault(2, one, ((1, 0), (0, 4)), EXAMPLE))
        self.assertIsNone(product_fault(2, one, ((2, 1), (0, 2)), EXAMPLE))

    def test_more_than_four_rows(self):
        five = tuple(tuple(int(row == column) for column in range(5)) for row in range(5))
        self.assertEqual(product_fault(2, five, five, FIVE), "one")
        self.assertEqual(product_fault(2, ((1,),), ((1,),), FIVE), "one")

    def test_it_raises_nothing_but_bad_prime(self):
        for prime in NO_PRIMES:
            self.assert_refused(BadPrime, (prime,), product_fault, prime, None, None, FIVE)
        for one, _ in NO_SQUARES:
            for other, _ in NO_SQUARES:
                self.assertEqual(product_fault(5, one, other, FOUR), "one")


if __name__ == "__main__":
    unittest.main()
