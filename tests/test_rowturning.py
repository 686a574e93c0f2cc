import random
import time
import unittest

from tests.plain import (
    BIG, NO_PRIMES, PlainCase, drawn_invertible, drawn_shape, falling_rows, plain_determinant, plain_product,
    plain_shape,
)
from tests.plainrows import (
    FLAT_LONGS, NO_LONGS, drawn_of_shape, drawn_wide, plain_chain_of_table, plain_diagonal, plain_row_chains,
    plain_woven,
)
from threeshapes.errors import BadPrime, BadShape, BadTable, Flat, NotWoven, WrongShape
from threeshapes.rowturning import left_fault, left_for_rows

PRIMES = (2, 3, 5)


class LeftForRowsTest(PlainCase):
    def assert_left(self, prime, table, shapes):
        left = left_for_rows(prime, table, shapes)
        size = len(table)
        self.assert_tuples(left)
        self.assertEqual([len(row) for row in left], [size] * size)
        self.assertTrue(all(number >= 0 for row in left for number in row))
        self.assertNotEqual(plain_determinant(left) % prime, 0)
        self.assertEqual(plain_chain_of_table(prime, plain_product(left, table)), tuple(tuple(shape) for shape in shapes))
        self.assertIsNone(left_fault(prime, table, shapes, left))
        self.assertIsNone(left_fault(prime, table, shapes, [list(row) for row in left]))

    def test_few_of_them(self):
        for table in (((2, 0), (2, 4)), ((1, 0), (0, 8)), [[4, 2], [2, -1]], ((0, 2, 5), (8, 4, 0)), ((0, 0, 8), (1, 0, 0))):
            for chain in plain_row_chains(plain_shape(2, table)):
                self.assert_left(2, table, chain)
        self.assert_left(3, ((-9,),), ((2,),))
        self.assert_left(5, [[BIG, 0, 5, 0]], [[plain_shape(5, ((BIG, 0, 5, 0),))[0]]])

    def test_all_small_chains(self):
        """All row chains are met by every table of the shape, so all woven shapes are those of first rows [9.2]."""
        chance = random.Random(931)
        for length, most in ((1, 3), (2, 4), (3, 2), (4, 1)):
            for shape in falling_rows(length, most):
                prime = chance.choice(PRIMES)
                table = drawn_wide(chance, prime, shape, chance.choice((length, length, length + 1, 6)))
                met = {}
                for chain in plain_row_chains(shape):
                    self.assert_left(prime, table, chain)
                    met.update({part: True for part in chain})
                for many in range(1, length + 1):
                    self.assertEqual(tuple(sorted(part for part in met if len(part) == many)), plain_woven(shape, many))

    def test_four_rows(self):
        chance = random.Random(932)
        for shape in ((3, 2, 1, 0), (2, 2, 0, 0), (4, 1, 1, 0)):
            chains = plain_row_chains(shape)
            for chain in chance.sample(chains, min(len(chains), 12)):
                prime = chance.choice(PRIMES)
                self.assert_left(prime, drawn_wide(chance, prime, shape, chance.choice((4, 4, 8))), chain)

    def test_greater_parts(self):
        start = time.perf_counter()
        chance = random.Random(933)
        for prime in PRIMES:
            for chain in (((50,), (70, 30), (100, 60, 20), (100, 80, 40, 10)), ((100,), (100, 0), (100, 0, 0), (100, 100, 0, 0)),
                          ((60,), (80, 40)), ((101,), (102, 101))):
                self.assert_left(prime, drawn_of_shape(chance, prime, chain[-1]), chain)
        self.assertLess(time.perf_counter() - start, 30)


class ArgumentsTest(PlainCase):
    def test_wrong_arguments_in_their_order(self):
        flat = ((1, 2), (2, 4))
        good = ((2, 0), (0, 4))
        for function in (left_for_rows, lambda *given: left_fault(*given, None)):
            for prime in NO_PRIMES:
                self.assert_refused(BadPrime, (prime,), function, prime, None, None)
            for wrong, word in NO_LONGS:
                self.assert_refused(BadTable, (word,), function, 2, wrong, None)
            for wrong in (None, 7, "ab", (), {0: (1,), 1: (2, 1)}, ((1,),), ((1,), (1, 1), (1, 1, 1)), ((True,),),
                          ((0,), (0, 0), (0, 0, 0), (0,) * 4, (0,) * 5), (None, None, None)):
                self.assert_refused(BadShape, ("many",), function, 2, flat, wrong)
            for wrong, word in ((((1,), 7), "many"), (((1, 1), (1, 2)), "many"), (((1,), (1,)), "many"),
                                (((True,), (1, 2)), "number"), (((1,), (1, 2)), "falling"), (((1,), (1, -1)), "number")):
                self.assert_refused(BadShape, (word,), function, 2, flat, wrong)
            for table in FLAT_LONGS:
                shapes = ((9,), (5, 5), (7, 7, 7))[:len(table)]
                self.assert_refused(Flat, (), function, 2, table, shapes)
            for wrong, place in ((((3,), (2, 1)), 0), (((0,), (2, 1)), 0), (((0,), (5, 5)), 0)):
                self.assert_refused(NotWoven, (1, place), function, 2, good, wrong)
            wrong = ((1,), (1, 1), (1, 0, 0))
            self.assert_refused(NotWoven, (2, 1), function, 2, plain_diagonal(2, (1, 1, 0)), wrong)
            for wrong in (((2,), (2, 2)), ((1,), (1, 0)), ((0,), (0, 0)), ((2,), (3, 0))):
                self.assert_refused(WrongShape, (), function, 2, good, wrong)
            self.assert_refused(WrongShape, (), function, 3, good, ((1,), (2, 1)))

    def test_left_fault(self):
        table, chain = ((2, 0), (0, 4)), ((1,), (2, 1))
        for wrong in (None, 7, "ab", (), ((1,),), ((1, 0, 0), (0, 1, 0), (0, 0, 1)), ((1, 0),), ((1, 0), (0, True)),
                      ((1, 0), (0, 1.0)), ((1, 0), (0,)), ((0, 0), (0, 0)), ((2, 0), (0, 1)), ((1, 1), (1, 3)),
                      ((1, 0), (0, 1), (1, 1)), ((1, 0, 0), (0, 1, 0))):
            self.assertEqual(left_fault(2, table, chain, wrong), "left")
        for wrong in (((0, 1), (1, 0)), ((2, 1), (1, 0)), ((-2, -1), (1, 1))):
            self.assertEqual(left_fault(2, table, chain, wrong), "chain")
            self.assertIsNone(left_fault(2, table, ((2,), (2, 1)), wrong))
        for right in (((1, 0), (0, 1)), [[-1, 4], [7, 1]], ((BIG, 1), (2 * BIG, 3)), ((3, 1), (1, 0))):
            self.assertIsNone(left_fault(2, [list(row) for row in table], [list(shape) for shape in chain], right))

    def test_left_fault_of_many_tables(self):
        chance = random.Random(934)
        for _ in range(60):
            prime = chance.choice(PRIMES)
            shape = drawn_shape(chance, chance.choice((2, 3)), 2)
            table = drawn_wide(chance, prime, shape, len(shape) + chance.choice((0, 1)))
            left = drawn_invertible(chance, prime, len(shape))
            own = plain_chain_of_table(prime, plain_product(left, table))
            for chain in plain_row_chains(shape):
                self.assertEqual(left_fault(prime, table, chain, left), None if chain == own else "chain")

    def test_what_is_passed_stays_and_answers_stay(self):
        table, shapes, left = [[2, 0], [0, 4]], [[2], [2, 1]], [[0, 1], [1, 0]]
        for call in (lambda: left_for_rows(2, table, shapes), lambda: left_fault(2, table, shapes, left),
                     lambda: left_for_rows(shapes=shapes, table=table, prime=2)):
            self.assertEqual(call(), call())
            self.assertEqual((table, shapes, left), ([[2, 0], [0, 4]], [[2], [2, 1]], [[0, 1], [1, 0]]))


if __name__ == "__main__":
    unittest.main()
