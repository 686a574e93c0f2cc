import random
import unittest

from tests.plain import BIG, PlainCase, plain_determinant, plain_product
from threeshapes.errors import BadTable
from threeshapes.tables import (
    beside_table, check_table, cut_table, determinant_of, diagonal_of, flipped_table, identity_table, is_invertible,
    table_modulo, times_table,
)


def random_table(chance, rows, columns, size):
    return tuple(tuple(chance.randint(-size, size) for _ in range(columns)) for _ in range(rows))


class CheckTableTest(PlainCase):
    def test_tables_are_returned_as_tuples(self):
        for thing in ([[1]], ((1,),), [(1, 2)], ([1, -2], [BIG, 0]), [[0] * 8] * 8, [[5]] * 8):
            table = check_table(thing)
            self.assert_tuples(table)
            self.assertEqual(table, tuple(tuple(row) for row in thing))

    def test_what_is_passed_is_not_kept(self):
        thing = [[1, 2], [3, 4]]
        table = check_table(thing)
        thing[0][0] = 9
        thing.append([5, 6])
        self.assertEqual(table, ((1, 2), (3, 4)))

    def test_rows(self):
        for thing in (None, 7, "ab", b"ab", {1: (1,)}, {(1,)}, range(2), (), [], [[1]] * 9, iter([[1]])):
            self.assert_refused(BadTable, ("rows",), check_table, thing)

    def test_columns(self):
        for thing in ([1], [[]], [[1] * 9], [[1], [1, 2]], [[1, 2], [1]], [[1], "a"], [[1], None], ["ab", "cd"],
                      [[1, 2], [3, 4], []], [None, [1]], [range(2)], [{1: 1}]):
            self.assert_refused(BadTable, ("columns",), check_table, thing)

    def test_number(self):
        for thing in ([[True]], [[1, False]], [[1], [2.0]], [["1"]], [[None]], [[[1]]], [[1, 2], [3, (4,)]]):
            self.assert_refused(BadTable, ("number",), check_table, thing)

    def test_earlier_words_come_first(self):
        self.assert_refused(BadTable, ("rows",), check_table, [[True], "a"] * 5)
        self.assert_refused(BadTable, ("columns",), check_table, [[True], "a"])
        self.assert_refused(BadTable, ("columns",), check_table, [["x", 1], [1]], "square")
        self.assert_refused(BadTable, ("number",), check_table, [[True], [1]], "long")
        self.assert_refused(BadTable, ("number",), check_table, [[1, None]], "square")

    def test_long(self):
        for rows, columns in ((1, 1), (1, 8), (4, 4), (4, 8), (3, 4)):
            table = random_table(random.Random(1), rows, columns, 5)
            self.assertEqual(check_table(table, "long"), table)
        for rows, columns in ((2, 1), (4, 3), (5, 5), (5, 8), (8, 8)):
            table = random_table(random.Random(1), rows, columns, 5)
            self.assert_refused(BadTable, ("long",), check_table, table, "long")
            self.assertEqual(check_table(table, "any"), table)

    def test_square(self):
        for size in (1, 2, 3, 4):
            table = random_table(random.Random(1), size, size, 5)
            self.assertEqual(check_table(table, sort="square"), table)
        for rows, columns in ((1, 2), (2, 1), (4, 5), (5, 5), (8, 8)):
            table = random_table(random.Random(1), rows, columns, 5)
            self.assert_refused(BadTable, ("square",), check_table, table, sort="square")


class TablesTest(PlainCase):
    def setUp(self):
        self.chance = random.Random(11)

    def test_products(self):
        for _ in range(60):
            rows, inner, columns = [self.chance.randint(1, 8) for _ in range(3)]
            one = random_table(self.chance, rows, inner, 9)
            other = random_table(self.chance, inner, columns, BIG)
            product = times_table(one, other)
            self.assert_tuples(product)
            self.assertEqual(product, plain_product(one, other))
            lists = times_table([list(row) for row in one], [list(row) for row in other])
            self.assertEqual(lists, product)
            self.assert_tuples(lists)

    def test_product_is_no_other_one(self):
        self.assertEqual(times_table(((1, 2), (3, 4)), ((0, 1), (1, 1))), ((2, 3), (4, 7)))

    def test_identity_and_diagonal(self):
        self.assertEqual(identity_table(1), ((1,),))
        self.assertEqual(identity_table(3), ((1, 0, 0), (0, 1, 0), (0, 0, 1)))
        self.assertEqual(diagonal_of((4,)), ((4,),))
        self.assertEqual(diagonal_of([4, 0, -2]), ((4, 0, 0), (0, 0, 0), (0, 0, -2)))
        self.assert_tuples(identity_table(8))

    def test_beside_and_flipped(self):
        beside = beside_table([[1], [2]], ((3, 4), (5, 6)))
        self.assertEqual(beside, ((1, 3, 4), (2, 5, 6)))
        self.assert_tuples(beside)
        self.assertEqual(flipped_table([[1, 2, 3], [4, 5, 6]]), ((1, 4), (2, 5), (3, 6)))
        self.assertEqual(flipped_table(((7,),)), ((7,),))
        self.assert_tuples(flipped_table([[1, 2, 3]]))

    def test_modulo(self):
        self.assertEqual(table_modulo([[-1, 0, 9], [8, 7, -16]], 8), ((7, 0, 1), (0, 7, 0)))
        self.assertEqual(table_modulo(((-BIG,),), 3), (((-BIG) % 3,),))
        self.assertEqual(table_modulo(((5,),), 1), ((0,),))

    def test_cut(self):
        table = [[1, 2, 3], [4, 5, 6], [7, 8, 9]]
        self.assertEqual(cut_table(table, [2, 0], (1, 2)), ((8, 9), (2, 3)))
        self.assertEqual(cut_table(table, (1,), [2, 0, 1]), ((6, 4, 5),))
        self.assert_tuples(cut_table(table, [0], [0]))

    def test_determinants(self):
        for _ in range(120):
            size = self.chance.randint(1, 4)
            table = random_table(self.chance, size, size, self.chance.choice((1, 2, 9, BIG)))
            found = determinant_of(table)
            self.assertEqual(found, plain_determinant(table))
            self.assertEqual(determinant_of([list(row) for row in table]), found)

    def test_invertible(self):
        for _ in range(150):
            size = self.chance.choice((1, 2, 3, 4, 4, 5))
            table = random_table(self.chance, size, size, self.chance.choice((1, 3, BIG)))
            number = plain_determinant(table)
            for prime in (2, 3, 5):
                self.assertIs(is_invertible(prime, table), number % prime != 0)
                self.assertIs(is_invertible(prime, [list(row) for row in table]), number % prime != 0)

    def test_invertible_with_eight_rows(self):
        for _ in range(40):
            numbers = [self.chance.choice((1, 2, 3, 5, 7, -4)) for _ in range(8)]
            table = diagonal_of(numbers)
            for _ in range(20):
                one, other = self.chance.sample(range(8), 2)
                change = [list(row) for row in identity_table(8)]
                change[one][other] = self.chance.randint(-9, 9)
                table = times_table(table, change)
            table = tuple(self.chance.sample(table, 8))
            for prime in (2, 3, 5):
                self.assertIs(is_invertible(prime, table), all(number % prime for number in numbers))

    def test_arguments_stay_as_they_are(self):
        one, other = [[1, 2], [3, 4]], [[5, 6], [7, 8]]
        for call in (lambda: times_table(one, other), lambda: beside_table(one, other), lambda: flipped_table(one),
                     lambda: table_modulo(one, 2), lambda: cut_table(one, [1], [0]), lambda: determinant_of(one),
                     lambda: is_invertible(3, one), lambda: check_table(one, "square")):
            call()
            self.assertEqual((one, other), ([[1, 2], [3, 4]], [[5, 6], [7, 8]]))


if __name__ == "__main__":
    unittest.main()
