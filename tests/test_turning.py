import random
import unittest
from itertools import combinations

from tests.plain import (
    BIG, PlainCase, plain_determinant, plain_exponent, plain_least, plain_product, plain_shape,
)
from threeshapes.errors import BadMany, BadMore, BadPrime, BadTable, Flat, NotInvertible
from threeshapes.tables import diagonal_of, identity_table, is_invertible, table_modulo
from threeshapes.turning import Turned, inverse_modulo, least_exponent, shape_of, turn_table, turned_fault

FLAT = ((1, 2, 3), (2, 4, 6))
TABLE = ((2, 1), (0, 2))


def plain_modulus(prime, table, more):
    for columns in combinations(range(len(table[0])), len(table)):
        number = plain_determinant([[row[column] for column in columns] for row in table])
        if number:
            return prime ** (1 + plain_exponent(prime, number) + more)


def random_table(chance, prime, rows, columns):
    """A table with few and many figures, both signs, noughts, and many factors of the prime."""
    size = chance.choice((1, 3, 30, BIG))
    factors = (0, 1, 1, prime, -prime, prime ** 3, prime ** chance.randint(0, 40))
    return tuple(tuple(chance.randint(-size, size) * chance.choice(factors) for _ in range(columns)) for _ in range(rows))


def tables_to_turn(chance, many):
    """Tables of every size with their primes; the flat ones are left out."""
    for rows in range(1, 5):
        for columns in range(rows, 9):
            for prime in (2, 3, 5):
                for _ in range(many):
                    table = random_table(chance, prime, rows, columns)
                    if plain_modulus(prime, table, 0):
                        yield prime, table


class LeastExponentTest(PlainCase):
    def test_example(self):
        self.assertEqual([least_exponent(2, TABLE, many) for many in (1, 2)], [0, 2])
        self.assertEqual([least_exponent(2, ((2, 2), (0, 2)), many) for many in (1, 2)], [1, 2])

    def test_against_all_cut_outs(self):
        chance = random.Random(21)
        for prime, table in tables_to_turn(chance, 1):
            if len(table[0]) <= 6:
                for many in range(1, len(table) + 1):
                    self.assertEqual(least_exponent(prime, table, many), plain_least(prime, table, many))

    def test_flat_tables_are_let(self):
        self.assertEqual(least_exponent(2, FLAT, 1), 0)
        self.assertIsNone(least_exponent(2, FLAT, 2))
        self.assertIsNone(least_exponent(3, [[0]], 1))

    def test_wrong_arguments_in_their_order(self):
        self.assert_refused(BadPrime, (4,), least_exponent, 4, "x", 9)
        self.assert_refused(BadPrime, (True,), least_exponent, True, TABLE, 1)
        self.assert_refused(BadTable, ("rows",), least_exponent, 2, "x", 9)
        self.assert_refused(BadTable, ("long",), least_exponent, 2, ((1,), (2,)), 9)
        for many in (0, 3, -1, True, None, 1.0, "1", BIG):
            self.assert_refused(BadMany, (many,), least_exponent, 2, TABLE, many)


class ShapeOfTest(PlainCase):
    def test_example(self):
        self.assertEqual(shape_of(2, TABLE), (2, 0))
        self.assertEqual(shape_of(2, [[2, 2], [0, 2]]), (1, 1))
        self.assertEqual(shape_of(3, TABLE), (0, 0))

    def test_against_all_cut_outs(self):
        for prime, table in tables_to_turn(random.Random(22), 3):
            if len(table[0]) <= 6:
                shape = shape_of(prime, table)
                self.assertEqual(shape, plain_shape(prime, table))
                self.assert_tuples(shape)

    def test_diagonals(self):
        for prime in (2, 3, 5):
            powers = [-prime ** 1, 7 * prime ** 300, prime ** 0, prime ** 2 * 11]
            self.assertEqual(shape_of(prime, diagonal_of(powers)), (300, 2, 1, 0))

    def test_invertible_tables_change_no_shape(self):
        chance = random.Random(23)
        for prime, table in tables_to_turn(chance, 1):
            for size, ahead in ((len(table), True), (len(table[0]), False)):
                while True:
                    other = [[chance.randint(-9, 9) for _ in range(size)] for _ in range(size)]
                    if is_invertible(prime, other):
                        break
                changed = plain_product(other, table) if ahead else plain_product(table, other)
                self.assertEqual(shape_of(prime, changed), shape_of(prime, table))

    def test_wrong_arguments_in_their_order(self):
        self.assert_refused(BadPrime, (6,), shape_of, 6, None)
        self.assert_refused(BadTable, ("number",), shape_of, 2, ((True,),))
        self.assert_refused(BadTable, ("long",), shape_of, 2, [[1]] * 2)
        for table in (FLAT, ((0,),), ((0,) * 8,) * 4, [[1, 2], [2, 4]]):
            self.assert_refused(Flat, (), shape_of, 5, table)


class TurnTableTest(PlainCase):
    def assert_turned(self, prime, table, turned, more):
        """The properties that the document asks for, told without the judge."""
        rows, columns = len(table), len(table[0])
        modulus = plain_modulus(prime, table, more)
        self.assertIs(turned.__class__, Turned)
        self.assertEqual(turned.modulus, modulus)
        self.assertEqual(turned.shape, shape_of(prime, table))
        for side, size in ((turned.left, rows), (turned.right, columns)):
            self.assert_tuples(side)
            self.assertEqual([len(row) for row in side], [size] * size)
            self.assertTrue(all(0 <= number < modulus for row in side for number in row))
            self.assertTrue(is_invertible(prime, side))
        product = table_modulo(plain_product(plain_product(turned.left, table), turned.right), modulus)
        wanted = tuple(
            tuple(prime ** part if column == row else 0 for column in range(columns))
            for row, part in enumerate(turned.shape)
        )
        self.assertEqual(product, wanted)
        self.assertIsNone(turned_fault(prime, table, turned, more))

    def test_tables_are_brought_to_their_diagonal(self):
        for prime, table in tables_to_turn(random.Random(31), 4):
            self.assert_turned(prime, table, turn_table(prime, table), 0)

    def test_more(self):
        chance = random.Random(32)
        for more in (1, 7, 400):
            for prime, table in tables_to_turn(chance, 1):
                self.assert_turned(prime, table, turn_table(prime, table, more), more)
                self.assert_turned(prime, table, turn_table(prime, [list(row) for row in table], more=more), more)

    def test_the_modulus_is_that_of_the_first_cut_out_that_is_not_nought(self):
        self.assertEqual(turn_table(2, ((0, 8, 1),)).modulus, 16)
        self.assertEqual(turn_table(2, ((0, 8, 1),), 2).modulus, 64)
        # Columns 0 and 1 give 0, 0 and 2 give 9, 1 and 2 are not asked.
        self.assertEqual(turn_table(3, ((1, 1, 0), (0, 0, 9))).modulus, 27)
        self.assertEqual(turn_table(3, ((1, 1, 0, 1), (0, 0, 9, 1))).modulus, 27)

    def test_wrong_arguments_in_their_order(self):
        for function, ahead in ((turn_table, ()), (turned_fault, (None,))):
            self.assert_refused(BadPrime, (1,), function, 1, "x", *ahead, -1)
            self.assert_refused(BadTable, ("columns",), function, 2, [1], *ahead, -1)
            self.assert_refused(BadTable, ("long",), function, 2, [[1], [1]], *ahead, 401)
            self.assert_refused(BadMore, (401,), function, 2, FLAT, *ahead, 401)
            for more in (-1, True, None, 1.0, "0", BIG):
                self.assert_refused(BadMore, (more,), function, 2, TABLE, *ahead, more)
            self.assert_refused(Flat, (), function, 2, FLAT, *ahead, 400)
            self.assert_refused(Flat, (), function, 2, FLAT, *ahead)

    def test_what_is_passed_stays_as_it_was(self):
        table = [[6, 4, 2], [0, 8, -2]]
        turned = turn_table(2, table)
        shape_of(2, table)
        least_exponent(2, table, 2)
        self.assertIsNone(turned_fault(2, table, turned))
        self.assertEqual(table, [[6, 4, 2], [0, 8, -2]])
        kept = (turned.left, turned.shape, turned.right)
        table[0][0] = 1
        self.assertEqual((turned.left, turned.shape, turned.right), kept)


class TurnedFaultTest(PlainCase):
    def setUp(self):
        self.table = ((4, 0, 2), (0, 1, 3))
        self.turned = turn_table(2, self.table)

    def changed(self, **changes):
        values = dict(vars(self.turned))
        values.update(changes)
        return Turned(**values)

    def assert_fault(self, word, **changes):
        self.assertEqual(turned_fault(2, self.table, self.changed(**changes)), word)

    def test_no_fault(self):
        self.assert_fault(None)

    def test_modulus(self):
        for modulus in (1, 4, 16, -8, True, None, "8", 8.0, (8,)):
            self.assert_fault("modulus", modulus=modulus)
        self.assertEqual(turned_fault(2, self.table, self.turned, 1), "modulus")

    def test_shape(self):
        for shape in ((0, 1), (1,), (1, 0, 0), "10", None, 7, (True, 0), (1, -1), (1.0, 0), {1: 1, 0: 0}):
            self.assert_fault("shape", shape=shape)

    def test_left_and_right(self):
        for name, size in (("left", 2), ("right", 3)):
            side = getattr(self.turned, name)
            for wrong in (None, 3, (), side[1:], side + side[:1], [row[1:] for row in side], ((True,) * size,) * size,
                          ((0,) * size,) * size, diagonal_of([2] + [1] * (size - 1)), ((1.0,) * size,) * size,
                          identity_table(size - 1), identity_table(size + 1), identity_table(9)):
                self.assert_fault(name, **{name: wrong})

    def test_product(self):
        self.assert_fault("product", shape=(1, 1))
        self.assert_fault("product", shape=(2, 0))
        self.assert_fault("product", shape=(0, 0))
        self.assert_fault("product", shape=(10 ** 300, 0))
        self.assert_fault("product", shape=(10 ** 300, 10 ** 300))
        self.assert_fault("product", left=((1, 0), (0, 3)))
        self.assert_fault("product", right=identity_table(3))

    def test_a_great_part_counts_as_nought(self):
        # Modulo 2 the power of any part from 1 on is 0, but that of 0 is not.
        one = Turned(((1,),), (10 ** 300,), ((1,),), 2)
        self.assertEqual(turned_fault(2, ((3,),), one), "product")

    def test_lists_and_entries_of_any_size_are_let(self):
        modulus = self.turned.modulus
        for times in (1, -1, 10 ** 300):
            sides = {
                name: [[number + times * modulus for number in row] for row in getattr(self.turned, name)]
                for name in ("left", "right")
            }
            self.assert_fault(None, shape=list(self.turned.shape), **sides)

    def test_other_right_ones_are_right(self):
        chance = random.Random(41)
        for prime, table in tables_to_turn(chance, 1):
            turned = turn_table(prime, table)
            unit = chance.choice([number for number in (1, 7, 11, -13) if number % prime])
            back = pow(unit, -1, turned.modulus)
            left = [[unit * number for number in row] for row in turned.left]
            right = [[back * number for number in row] for row in turned.right]
            other = Turned(left, list(turned.shape), right, turned.modulus)
            self.assertIsNone(turned_fault(prime, table, other))

    def test_earlier_words_come_first(self):
        self.assert_fault("modulus", modulus=4, shape=None, left=None, right=None)
        self.assert_fault("shape", shape=None, left=None, right=None)
        self.assert_fault("left", shape=(3, 3), left=None, right=None)
        self.assert_fault("right", shape=(3, 3), right=None)


class InverseModuloTest(PlainCase):
    def test_both_sides(self):
        chance = random.Random(51)
        for size in range(1, 9):
            for prime in (2, 3, 5):
                for exponent in (1, 2, 30, 500):
                    modulus = prime ** exponent
                    most = chance.choice((1, 9, BIG))
                    while True:
                        table = [[chance.randint(-most, most) for _ in range(size)] for _ in range(size)]
                        if is_invertible(prime, table):
                            break
                    inverse = inverse_modulo(prime, table, modulus)
                    self.assert_tuples(inverse)
                    self.assertTrue(all(0 <= number < modulus for row in inverse for number in row))
                    self.assertEqual(table_modulo(plain_product(inverse, table), modulus), identity_table(size))
                    self.assertEqual(table_modulo(plain_product(table, inverse), modulus), identity_table(size))

    def test_a_nought_on_the_diagonal(self):
        self.assertEqual(inverse_modulo(2, ((0, 1), (1, 0)), 8), ((0, 1), (1, 0)))
        self.assertEqual(inverse_modulo(5, [[2]], 5), ((3,),))

    def test_wrong_arguments_in_their_order(self):
        self.assert_refused(BadPrime, ("2",), inverse_modulo, "2", None, 2)
        self.assert_refused(BadTable, ("rows",), inverse_modulo, 2, None, 2)
        self.assert_refused(BadTable, ("columns",), inverse_modulo, 2, [[1], [1, 2]], 2)
        self.assert_refused(BadTable, ("number",), inverse_modulo, 2, [[True, 1]], 2)
        for table in (((1, 2),), ((1,), (2,)), ((1,) * 8,) * 5):
            self.assert_refused(BadTable, ("square",), inverse_modulo, 2, table, 2)
        for table in (((0,),), ((2, 0), (0, 1)), ((1, 1), (1, 1)), ((2,) * 8,) * 8):
            self.assert_refused(NotInvertible, (), inverse_modulo, 2, table, 4)

    def test_what_is_passed_stays_as_it_was(self):
        table = [[1, 2], [0, 1]]
        self.assertEqual(inverse_modulo(3, table, 9), ((1, 7), (0, 1)))
        self.assertEqual(table, [[1, 2], [0, 1]])


if __name__ == "__main__":
    unittest.main()
