import itertools
import random
import time
import unittest

from tests.plain import BIG, NO_PRIMES, NO_SQUARES, PlainCase, plain_product, plain_shape, shapes_of_sum
from tests.plainrows import (
    NO_FACTORS, drawn_of_shape, drawn_rows, plain_diagonal, plain_products, plain_row_shapes, plain_ways, small_rows,
)
from threeshapes.errors import (
    BadBeginnings, BadFactors, BadPlace, BadPrime, BadShape, BadTable, BadTables, Flat, NoWay, TooMany, WrongShape,
)
from threeshapes.tablerows import RowRead, made_around, made_row, read_row, row_fault, tables_of_beginnings

PRIMES = (2, 3, 5)
SMALL = ((1, 3, 1), (1, 1, 3), (2, 3, 1), (2, 2, 2), (2, 1, 3), (3, 1, 2), (4, 1, 1))
LARGER = ((1, 4, 5), (2, 4, 2), (2, 2, 3), (2, 2, 5), (3, 2, 2), (3, 1, 4), (3, 2, 3), (4, 1, 2), (4, 1, 3), (4, 2, 2))
FACTORS = ((1, 0), (1, 0), (2, 0))
WAY = ((1, 0), (1, 1), (3, 1))
FLATS = (((0, 0), (0, 0)), ((1, 2), (2, 4)), [[6, 3], [2, 1]])


def rows_with_primes():
    chance = random.Random(821)
    for factors in small_rows(SMALL):
        yield chance.choice(PRIMES), factors
    for factors in drawn_rows(chance, 45, LARGER, 9):
        yield chance.choice(PRIMES), factors


class TableRowsCase(PlainCase):
    def assert_square(self, tables, factors):
        self.assertIsInstance(tables, tuple)
        self.assertEqual(len(tables), len(factors))
        self.assert_tuples(tables)
        for table in tables:
            self.assertEqual([len(row) for row in table], [len(factors[0])] * len(factors[0]))

    def assert_way(self, prime, factors, beginnings, tables):
        """Each table has the shape of its factor, each product of the first ones that of its beginning."""
        self.assert_square(tables, factors)
        product = None
        for table, factor, beginning in zip(tables, factors, beginnings):
            self.assertEqual(plain_shape(prime, table), factor)
            product = table if product is None else plain_product(product, table)
            self.assertEqual(plain_shape(prime, product), beginning)

    def assert_row(self, prime, factors, after, tables):
        self.assert_square(tables, factors)
        for table, factor in zip(tables, factors):
            self.assertEqual(plain_shape(prime, table), factor)
        product = tables[0]
        for table in tables[1:]:
            product = plain_product(product, table)
        self.assertEqual(plain_shape(prime, product), after)


class TablesOfBeginningsTest(TableRowsCase):
    def test_example(self):
        for prime in PRIMES:
            for way in (WAY, ((1, 0), (2, 0), (3, 1))):
                self.assert_way(prime, FACTORS, way, tables_of_beginnings(prime, FACTORS, way))

    def test_all_ways_of_small_rows(self):
        for prime, factors in rows_with_primes():
            ways = plain_ways(factors)
            for way in ways[:4] + ways[4::7]:
                tables = tables_of_beginnings(prime, [list(one) for one in factors], [list(one) for one in way])
                self.assert_way(prime, factors, way, tables)

    def test_one_factor(self):
        for prime in PRIMES:
            for shape in ((0,), (3,), (2, 1), (2, 0, 0), (3, 2, 1, 0)):
                self.assert_way(prime, (shape,), (shape,), tables_of_beginnings(prime, (shape,), (shape,)))

    def test_bad_beginnings(self):
        for wrong in (None, 7, "ab", (), ((1, 0),), WAY[:2], WAY + ((3, 1),), {0: 1, 1: 2, 2: 3}, iter(WAY)):
            self.assert_refused(BadBeginnings, (0,), tables_of_beginnings, 2, FACTORS, wrong)
        wrongs = (None, 7, "10", (), (1,), (1, 0, 0), (0, 1), (True, 0), (1.0, 0), (2, -1), (BIG, 0), (0, 0))
        for index in range(3):
            for wrong in wrongs:
                way = WAY[:index] + (wrong,) + WAY[index + 1:]
                self.assert_refused(BadBeginnings, (index,), tables_of_beginnings, 2, FACTORS, way)
        for index, way in (
            (0, ((2, 0), (3, 0), (5, 0))), (0, ((0, 0), (1, 0), (3, 0))), (1, ((1, 0), (3, 0), (5, 0))),
            (2, ((1, 0), (1, 1), (2, 2))), (2, ((1, 0), (1, 1), (4, 0))), (1, ((1, 0), (1, 0), (3, 1))),
            (0, ((1, 1), (1, 2), None)), (1, ((1, 0), None, (9, 9))),
        ):
            self.assert_refused(BadBeginnings, (index,), tables_of_beginnings, 2, FACTORS, way)

    def test_all_small_beginnings(self):
        for factors in small_rows(((2, 2, 2), (3, 1, 2))):
            total = sum(map(sum, factors))
            for after in shapes_of_sum(len(factors[0]), total):
                way = (factors[0], after)
                if after in plain_products(*factors):
                    self.assertEqual(len(tables_of_beginnings(3, factors, way)), 2)
                else:
                    self.assert_refused(BadBeginnings, (1,), tables_of_beginnings, 3, factors, way)

    def test_wrong_arguments_in_their_order(self):
        for function in (tables_of_beginnings, lambda *given: row_fault(*given, None)):
            for prime in NO_PRIMES:
                self.assert_refused(BadPrime, (prime,), function, prime, None, None)
            for factors, what, index in NO_FACTORS:
                self.assert_refused(BadFactors, (what, index), function, 2, factors, None)
            self.assert_refused(TooMany, (24,), function, 2, ((12, 0), (13, 0)), None)
            self.assert_refused(TooMany, (24,), function, 2, ((BIG,),), ((BIG,),))
            self.assert_refused(BadFactors, ("length", 1), function, 2, ((25, 0), (25,)), None)
            self.assert_refused(BadBeginnings, (0,), function, 2, ((12, 0), (12, 0)), None)
            self.assert_refused(BadBeginnings, (0,), function, 2, ((24,),), ((23,),))


class MadeRowTest(TableRowsCase):
    def test_all_product_shapes_of_small_rows(self):
        for prime, factors in rows_with_primes():
            found = plain_row_shapes(factors)
            firsts = {way[-1]: way for way in plain_ways(factors)[::-1]}
            for after in shapes_of_sum(len(factors[0]), sum(map(sum, factors))):
                if after in found:
                    tables = made_row(prime, factors, after)
                    self.assert_row(prime, factors, after, tables)
                    self.assert_way(prime, factors, firsts[after], tables)
                else:
                    self.assert_refused(NoWay, (), made_row, prime, factors, after)

    def test_wrong_arguments_in_their_order(self):
        for prime in NO_PRIMES:
            self.assert_refused(BadPrime, (prime,), made_row, prime, None, None)
        for factors, what, index in NO_FACTORS:
            self.assert_refused(BadFactors, (what, index), made_row, 2, factors, None)
        for after, word in ((None, "many"), ((1,), "many"), ((True, 0), "number"), ((1, 2), "falling")):
            self.assert_refused(BadShape, (word,), made_row, 2, ((25, 0),), after)
        self.assert_refused(TooMany, (24,), made_row, 2, ((25, 0),), (1, 0))
        self.assert_refused(NoWay, (), made_row, 2, FACTORS, (BIG, 0))
        self.assert_refused(NoWay, (), made_row, 2, ((1, 0), (1, 0), (4, 0)), (3, 3))

    def test_sums_of_24(self):
        start = time.perf_counter()
        for factors, after in ((((6, 2, 0), (5, 3, 0), (6, 2, 0)), (10, 8, 6)), (((6, 4, 2, 0), (6, 3, 2, 1)), (9, 7, 5, 3)),
                               (((5,),) * 4 + ((4,),), (24,)), (((5, 0), (5, 0), (4, 0), (5, 0), (5, 0)), (13, 11))):
            self.assert_row(5, factors, after, made_row(5, factors, after))
        self.assertLess(time.perf_counter() - start, 30)


class MadeAroundTest(TableRowsCase):
    def assert_around(self, prime, factors, after, place, table):
        tables = made_around(prime, factors, after, place, table)
        self.assert_row(prime, factors, after, tables)
        self.assertEqual(tables[place], tuple(tuple(row) for row in table))

    def test_all_places_of_small_rows(self):
        chance = random.Random(822)
        for prime, factors in rows_with_primes():
            for after in plain_row_shapes(factors):
                for place in range(len(factors)):
                    table = drawn_of_shape(chance, prime, factors[place])
                    self.assert_around(prime, factors, after, place, table)

    def test_tables_of_many_kinds(self):
        after = (3, 1)
        for table in ([[-2, 4], [2, -3]], ((2, 0), (0, 1)), ((0, 1), (-2, 0)), ((2 * BIG, 1), (2, 0)), ((7, 9), (3, 5))):
            if plain_shape(2, table) == (1, 0):
                for place in (0, 1):
                    self.assert_around(2, FACTORS, after, place, table)
        self.assertEqual(made_around(3, ((2,),), (2,), 0, [[-9]]), (((-9,),),))

    def test_a_shape_that_does_not_come(self):
        for place in range(2):
            self.assert_refused(NoWay, (), made_around, 2, FACTORS, (2, 1), place, ((2, 0), (0, 1)))
            self.assert_refused(NoWay, (), made_around, 2, ((1, 0), (1, 0), (4, 0)), (3, 3), place, ((2, 0), (0, 1)))
        self.assert_refused(NoWay, (), made_around, 2, ((1, 0),), (0, 0), 0, ((2, 0), (0, 1)))

    def test_wrong_arguments_in_their_order(self):
        good = ((2, 0), (0, 1))
        for prime in NO_PRIMES:
            self.assert_refused(BadPrime, (prime,), made_around, prime, None, None, None, None)
        for factors, what, index in NO_FACTORS:
            self.assert_refused(BadFactors, (what, index), made_around, 2, factors, None, None, None)
        for after, word in ((None, "many"), ((1,), "many"), ((True, 0), "number"), ((1, 2), "falling")):
            self.assert_refused(BadShape, (word,), made_around, 2, ((25, 0),), after, None, None)
        for place in (-1, 3, True, False, None, 0.0, "0", BIG):
            self.assert_refused(BadPlace, (), made_around, 2, FACTORS, (9, 9), place, None)
            self.assert_refused(BadPlace, (), made_around, 2, ((25, 0), (1, 0)), (9, 9), 2, None)
        for table, word in NO_SQUARES:
            self.assert_refused(BadTable, (word,), made_around, 2, FACTORS, (9, 9), 0, table)
        for table in FLATS:
            self.assert_refused(Flat, (), made_around, 2, ((25, 0),), (9, 9), 0, table)
        for table in (((1, 0), (0, 1)), ((4, 0), (0, 1)), ((2, 0), (0, 2)), ((2,),), ((2, 0, 0), (0, 1, 0), (0, 0, 1))):
            self.assert_refused(WrongShape, (), made_around, 2, FACTORS, (9, 9), 0, table)
            self.assert_refused(WrongShape, (), made_around, 2, ((25, 0), (1, 0)), (9, 9), 0, table)
        self.assert_refused(WrongShape, (), made_around, 3, FACTORS, (9, 9), 0, good)
        self.assert_refused(TooMany, (24,), made_around, 2, ((1, 0), (24, 0)), (9, 9), 0, good)
        self.assert_refused(NoWay, (), made_around, 2, ((1, 0), (23, 0)), (9, 9), 0, good)


class RowFaultTest(TableRowsCase):
    def test_right_tables(self):
        chance = random.Random(823)
        for factors in drawn_rows(chance, 60, SMALL + LARGER, 9):
            prime = chance.choice(PRIMES)
            ways = plain_ways(factors)
            tables = [drawn_of_shape(chance, prime, factor) for factor in factors]
            own = [tables[0]]
            for table in tables[1:]:
                own.append(plain_product(own[-1], table))
            own = tuple(plain_shape(prime, table) for table in own)
            for way in {own, ways[0], ways[-1]}:
                wanted = None if way == own else "product"
                self.assertEqual(row_fault(prime, factors, way, tables), wanted)
                self.assertEqual(row_fault(prime, list(factors), list(way), [[list(row) for row in t] for t in tables]), wanted)
            made = tables_of_beginnings(prime, factors, ways[-1])
            self.assertIsNone(row_fault(prime, factors, ways[-1], made))

    def test_many(self):
        made = tables_of_beginnings(2, FACTORS, WAY)
        for wrong in (None, 7, "abc", (), made[:2], made + made[:1], {0: 1, 1: 2, 2: 3}, iter(made)):
            self.assertEqual(row_fault(2, FACTORS, WAY, wrong), "many")

    def test_each_word_at_each_place(self):
        made = tables_of_beginnings(2, FACTORS, WAY)
        no_tables = [wrong for wrong, _ in NO_SQUARES] + list(FLATS) + [((2,),), plain_diagonal(2, (1, 0, 0))]
        for place in range(3):
            for wrong in no_tables:
                self.assertEqual(row_fault(2, FACTORS, WAY, made[:place] + (wrong,) + made[place + 1:]), "table")
            for shape in ((0, 0), (3, 0), (1, 1)):
                wrong = plain_diagonal(2, shape)
                self.assertEqual(row_fault(2, FACTORS, WAY, made[:place] + (wrong,) + made[place + 1:]), "shape")
        one, two, back = plain_diagonal(2, (1, 0)), plain_diagonal(2, (2, 0)), ((1, 0), (0, 2))
        self.assertIsNone(row_fault(2, FACTORS, WAY, (one, back, two)))
        self.assertEqual(row_fault(2, FACTORS, WAY, (one, one, two)), "product")
        self.assertEqual(row_fault(2, FACTORS, ((1, 0), (2, 0), (4, 0)), (one, one, ((1, 0), (0, 4)))), "product")

    def test_the_first_bad_item_is_told(self):
        one, two, back = plain_diagonal(2, (1, 0)), plain_diagonal(2, (2, 0)), ((1, 0), (0, 2))
        for tables, word in (
            ((two, None, two), "shape"), ((one, one, None), "product"), ((one, two, None), "shape"),
            ((None, two, two), "table"), ((one, None, one), "table"), ((one, back, one), "shape"),
            ((one, back, (0, 0)), "table"), ((one, one, one), "product"), ((two, one, two), "shape"),
        ):
            self.assertEqual(row_fault(2, FACTORS, WAY, tables), word)

    def test_errors_come_ahead_of_the_tables(self):
        self.assert_refused(BadBeginnings, (1,), row_fault, 2, FACTORS, ((1, 0), (3, 0), (3, 1)), None)
        self.assert_refused(TooMany, (24,), row_fault, 2, ((25,),), ((25,),), None)


class ReadRowTest(TableRowsCase):
    def test_all_tables(self):
        chance = random.Random(824)
        for factors in itertools.chain(drawn_rows(chance, 60, SMALL + LARGER, 9), [((30,), (0,), (7,)), ((9, 9),) * 5]):
            prime = chance.choice(PRIMES)
            tables = [drawn_of_shape(chance, prime, factor) for factor in factors]
            found = read_row(prime, tables)
            self.assertIsInstance(found, RowRead)
            self.assertEqual(found.factors, factors)
            self.assert_tuples((found.factors, found.beginnings))
            self.assert_way(prime, found.factors, found.beginnings, tuple(tables))
            if sum(map(sum, factors)) <= 9:
                self.assertIn(found.beginnings, plain_ways(factors))
                self.assertIsNone(row_fault(prime, found.factors, found.beginnings, tables))

    def test_example(self):
        found = read_row(2, [[[2, 0], [0, 1]], [[1, 0], [0, 2]], [[4, 0], [0, 1]]])
        self.assertEqual((found.factors, found.beginnings), (FACTORS, WAY))
        found = read_row(3, (((18,),),))
        self.assertEqual((found.factors, found.beginnings), (((2,),), ((2,),)))
        found = read_row(5, (((18,),), ((-5,),), ((BIG,),)))
        self.assertEqual((found.factors, found.beginnings), (((0,), (1,), (0,)), ((0,), (1,), (1,))))

    def test_bad_tables(self):
        one = ((2, 0), (0, 1))
        for wrong in (None, 7, "ab", (), [], (one,) * 6, {0: one}, iter((one,))):
            self.assert_refused(BadTables, (0,), read_row, 2, wrong)
        for wrong, _ in NO_SQUARES:
            for index in range(5):
                tables = [one] * index + [wrong] + [one] * (4 - index)
                self.assert_refused(BadTables, (index,), read_row, 2, tables)
        for wrong in (((2,),), plain_diagonal(2, (1, 0, 0))):
            self.assert_refused(BadTables, (1,), read_row, 2, (one, wrong, one))
            self.assert_refused(BadTables, (2,), read_row, 2, (one, one, wrong, None))
            self.assert_refused(BadTables, (1,), read_row, 2, (wrong, one, None))
        for flat in FLATS:
            for index in range(3):
                tables = [one] * index + [flat] + [one] * (2 - index)
                self.assert_refused(Flat, (), read_row, 2, tables)
            self.assert_refused(BadTables, (2,), read_row, 2, (one, flat, None))
            self.assert_refused(BadTables, (1,), read_row, 2, (flat, ((2,),)))
        for prime in NO_PRIMES:
            self.assert_refused(BadPrime, (prime,), read_row, prime, None)


class KeepingTest(TableRowsCase):
    def test_what_is_passed_stays_and_answers_stay(self):
        factors, way, after, table = [[1, 0], [1, 0], [2, 0]], [[1, 0], [1, 1], [3, 1]], [3, 1], [[2, 0], [0, 1]]
        made = [list(map(list, one)) for one in tables_of_beginnings(2, FACTORS, WAY)]
        copy = [list(map(list, one)) for one in made]
        for call in (lambda: tables_of_beginnings(2, factors, way), lambda: made_row(2, factors, after),
                     lambda: made_around(2, factors, after, 1, table), lambda: row_fault(2, factors, way, made),
                     lambda: vars(read_row(2, made))):
            self.assertEqual(call(), call())
            self.assertEqual(factors, [[1, 0], [1, 0], [2, 0]])
            self.assertEqual(way, [[1, 0], [1, 1], [3, 1]])
            self.assertEqual((after, table, made), ([3, 1], [[2, 0], [0, 1]], copy))


if __name__ == "__main__":
    unittest.main()
