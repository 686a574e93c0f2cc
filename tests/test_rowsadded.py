import random
import time
import unittest

from tests.plain import (
    BIG, NO_PRIMES, NO_SHAPES, NO_WHOLE, PlainCase, drawn_shape, falling_rows, plain_cut_outs, plain_determinant,
    plain_product, plain_shape, shapes_of_sum,
)
from tests.plainrows import (
    FLAT_LONGS, NO_LONGS, drawn_of_shape, drawn_wide, plain_chain_of_table, plain_count, plain_diagonal, plain_is_woven,
    plain_row_chains, plain_wide, plain_woven,
)
from threeshapes.errors import (
    BadMany, BadPrime, BadRow, BadShape, BadTable, Flat, FullTable, NotWoven,
)
from threeshapes.rowsadded import (
    added_fault, added_row, extended_fault, extended_table, first_rows, row_chain, rows_fault, struck_row,
    table_with_rows,
)

PRIMES = (2, 3, 5)
# No tables of any sort, with the word.
NO_TABLES = tuple(entry for entry in NO_LONGS if entry[1] != "long")
EIGHT = tuple(tuple(range(8 * row, 8 * row + 8)) for row in range(8))


def plain_place(shape, part):
    """The least index of a part of part that is out of its bounds; None if there is none."""
    n, k = len(shape), len(part)
    for i in range(1, k + 1):
        if not shape[n - k + i - 1] <= part[i - 1] <= shape[i - 1]:
            return i - 1
    return None


def plain_minors(table):
    """The determinants of all cut-outs of full size."""
    return [plain_determinant(part) for part in plain_cut_outs(table, len(table))]


def small_shapes():
    return [shape for length, most in ((1, 3), (2, 3), (3, 2), (4, 1)) for shape in falling_rows(length, most)]


class StrikingTest(PlainCase):
    def test_struck_row(self):
        for table in (((1, 2), (3, 4)), ((1,), (2,), (3,)), EIGHT, ((0, 0, 0), (0, 0, 0)), ((BIG, -BIG), (1, 0), (5, 5))):
            for row in range(len(table)):
                found = struck_row([list(line) for line in table], row)
                self.assertEqual(found, table[:row] + table[row + 1:])
                self.assert_tuples(found)
        self.assertEqual(struck_row(row=1, table=((1, 2), (3, 4))), ((1, 2),))

    def test_no_row(self):
        for row in NO_WHOLE + (-1, 2, BIG):
            self.assert_refused(BadRow, (row,), struck_row, ((1, 2), (3, 4)), row)
        for row in (0, -1, 1, None, True):
            self.assert_refused(BadRow, (row,), struck_row, ((1, 2, 3),), row)
        self.assert_refused(BadRow, (8,), struck_row, EIGHT, 8)

    def test_first_rows(self):
        for table in (((1, 2), (3, 4)), ((1,), (2,), (3,)), EIGHT, ((0, 0, 0),)):
            for many in range(1, len(table) + 1):
                found = first_rows([list(line) for line in table], many)
                self.assertEqual(found, table[:many])
                self.assert_tuples(found)
            for many in NO_WHOLE + (0, -1, len(table) + 1, BIG):
                self.assert_refused(BadMany, (many,), first_rows, table, many)

    def test_no_tables(self):
        for function in (struck_row, first_rows):
            for wrong, word in NO_TABLES:
                self.assert_refused(BadTable, (word,), function, wrong, None)

    def test_shapes_of_what_is_left(self):
        chance = random.Random(901)
        for shape in small_shapes():
            if len(shape) > 1:
                prime = chance.choice(PRIMES)
                table = drawn_wide(chance, prime, shape, chance.randint(len(shape), 5))
                for row in range(len(shape)):
                    self.assertTrue(plain_is_woven(shape, plain_shape(prime, struck_row(table, row))))
                for many in range(1, len(shape) + 1):
                    self.assertTrue(plain_is_woven(shape, plain_shape(prime, first_rows(table, many))))


class RowChainTest(PlainCase):
    def test_example(self):
        self.assertEqual(row_chain(2, ((2, 0), (2, 4))), ((1,), (2, 1)))
        self.assertEqual(row_chain(2, [[2, 0], [0, 4]]), ((1,), (2, 1)))
        self.assertEqual(row_chain(3, ((9,),)), ((2,),))
        self.assertEqual(row_chain(3, ((9, 3, 27),)), ((1,),))

    def test_all_small_shapes(self):
        chance = random.Random(902)
        for shape in small_shapes():
            for wide in {len(shape), len(shape) + 1, 6}:
                prime = chance.choice(PRIMES)
                table = drawn_wide(chance, prime, shape, wide)
                found = row_chain(prime, table)
                self.assertEqual(found, plain_chain_of_table(prime, table))
                self.assertEqual(found[-1], shape)
                self.assertIn(found, plain_row_chains(shape))
                self.assert_tuples(found)

    def test_wrong_arguments(self):
        for prime in NO_PRIMES:
            self.assert_refused(BadPrime, (prime,), row_chain, prime, None)
        for wrong, word in NO_LONGS:
            self.assert_refused(BadTable, (word,), row_chain, 2, wrong)
        for flat in FLAT_LONGS:
            self.assert_refused(Flat, (), row_chain, 2, flat)

    def test_first_rows_of_products(self):
        """The first rows of a product have a shape that some woven part of the second one's shape leads to."""
        chance = random.Random(903)
        for _ in range(40):
            size = chance.choice((2, 3, 4))
            prime = chance.choice(PRIMES)
            one = drawn_of_shape(chance, prime, drawn_shape(chance, size, 2))
            b = drawn_shape(chance, size, 2)
            chain = row_chain(prime, one)
            products = row_chain(prime, plain_product(one, drawn_of_shape(chance, prime, b)))
            for many in range(1, size + 1):
                parts = [part for part in plain_woven(b, many) if plain_count(chain[many - 1], part, products[many - 1])]
                self.assertTrue(parts)


class AddedRowTest(PlainCase):
    def assert_added(self, prime, table, shape):
        row = added_row(prime, table, shape)
        self.assertIsInstance(row, tuple)
        self.assertEqual(len(row), len(table[0]))
        self.assert_tuples(row)
        self.assertTrue(all(number >= 0 for number in row))
        self.assertEqual(plain_shape(prime, (*table, row)), tuple(shape))
        self.assertIsNone(added_fault(prime, table, shape, row))
        self.assertIsNone(added_fault(prime, table, shape, list(row)))

    def test_all_small_shapes(self):
        chance = random.Random(911)
        for part in small_shapes():
            many = len(part)
            if many < 4:
                prime = chance.choice(PRIMES)
                table = drawn_wide(chance, prime, part, chance.choice((many + 1, many + 1, many + 2, 6)))
                for shape in falling_rows(many + 1, part[0] + 1):
                    place = plain_place(shape, part)
                    if place is None:
                        self.assert_added(prime, table, shape)
                    else:
                        self.assert_refused(NotWoven, (many, place), added_row, prime, table, shape)
                        self.assert_refused(NotWoven, (many, place), added_fault, prime, table, shape, None)

    def test_the_example(self):
        self.assert_added(2, ((2, 0),), (2, 1))
        self.assert_added(2, [[2, 0]], [1, 1])
        self.assert_added(3, ((-9, 3, 6),), (BIG % 7, 1))
        self.assert_added(5, ((1, 2, 3, 4, 5, 6, 7, 8),), (3, 0))

    def test_greater_parts(self):
        start = time.perf_counter()
        chance = random.Random(912)
        for shape, part in (((100, 60, 20), (70, 30)), ((100, 100, 100, 100), (100, 100, 100)), ((100, 0), (0,)),
                            ((100, 80, 40, 1), (90, 50, 3)), ((60, 60, 0, 0), (60, 30, 0)), ((101, 101), (101,)),
                            ((120, 110, 100, 90), (115, 105, 95))):
            for prime in PRIMES:
                self.assert_added(prime, drawn_wide(chance, prime, part, 5), shape)
        self.assertLess(time.perf_counter() - start, 30)

    def test_wrong_arguments_in_their_order(self):
        for function in (added_row, lambda *given: added_fault(*given, None)):
            for prime in NO_PRIMES:
                self.assert_refused(BadPrime, (prime,), function, prime, None, None)
            for wrong, word in NO_LONGS:
                self.assert_refused(BadTable, (word,), function, 2, wrong, None)
            for full in (((1,),), ((0,),), ((1, 0), (0, 1)), ((1, 2), (2, 4)), plain_wide(2, (0,) * 4, 8),
                         ((0,) * 5,) * 4, plain_diagonal(2, (1, 1, 0))):
                self.assert_refused(FullTable, (), function, 2, full, None)
            flat = ((0, 0, 0),)
            for wrong, word in NO_SHAPES + (((1, 2, 3), "many"), ((True,), "many"), ((1,), "many"), ((2, True), "number"),
                                            ((1, 2), "falling")):
                word = "many" if isinstance(wrong, tuple) and len(wrong) != 2 else word
                self.assert_refused(BadShape, (word,), function, 2, flat, wrong)
            self.assert_refused(Flat, (), function, 2, flat, (2, 1))
            self.assert_refused(Flat, (), function, 2, ((1, 2, 3), (2, 4, 6)), (2, 1, 0))
            self.assert_refused(NotWoven, (1, 0), function, 2, ((8, 0),), (2, 1))
            self.assert_refused(NotWoven, (2, 1), function, 2, ((4, 0, 0), (0, 1, 0)), (2, 1, 1))

    def test_added_fault(self):
        table = ((2, 0),)
        for wrong in (None, 7, "ab", (), (2,), (2, 4, 0), (True, 4), (2, 4.0), (2, None), {0: 2, 1: 4}, iter((2, 4)), ((2, 4),)):
            self.assertEqual(added_fault(2, table, (2, 1), wrong), "row")
        for wrong in ((0, 0), (2, 0), (1, 2), (0, 1), (2, 2), (-2, 8), [2, 8], (0, 12 * 8)):
            self.assertEqual(added_fault(2, table, (2, 1), wrong), "shape")
        for right in ((2, 4), [0, 4], (-2, -4), (BIG * 2, 4), (0, 12)):
            self.assertIsNone(added_fault(2, table, (2, 1), right))
        self.assertIsNone(added_fault(2, table, (1, 0), (1, 1)))

    def test_added_fault_of_many_rows(self):
        chance = random.Random(913)
        for _ in range(200):
            prime = chance.choice(PRIMES)
            part = drawn_shape(chance, chance.choice((1, 2, 3)), 2)
            table = drawn_wide(chance, prime, part, len(part) + chance.choice((1, 2)))
            row = tuple(chance.randint(-4, 4) * prime ** chance.choice((0, 0, 1)) for _ in table[0])
            shapes = [shape for shape in falling_rows(len(part) + 1, part[0] + 1) if plain_place(shape, part) is None]
            longer = (*table, row)
            flat = not any(plain_minors(longer))
            for shape in shapes:
                right = not flat and plain_shape(prime, longer) == shape
                self.assertEqual(added_fault(prime, table, shape, row), None if right else "shape")


class ExtendedTableTest(PlainCase):
    def assert_extended(self, prime, table, shape):
        longer = extended_table(prime, table, shape)
        self.assert_tuples(longer)
        self.assertEqual([len(row) for row in longer], [len(table[0])] * len(shape))
        self.assertEqual(longer[:len(table)], tuple(tuple(row) for row in table))
        self.assertTrue(all(number >= 0 for row in longer[len(table):] for number in row))
        self.assertEqual(plain_shape(prime, longer), tuple(shape))
        self.assertIsNone(extended_fault(prime, table, shape, longer))
        self.assertIsNone(extended_fault(prime, table, shape, [list(row) for row in longer]))

    def test_all_small_shapes(self):
        chance = random.Random(921)
        for shape in small_shapes():
            for many in range(1, len(shape) + 1):
                for part in falling_rows(many, shape[0]):
                    prime = chance.choice(PRIMES)
                    table = drawn_wide(chance, prime, part, max(len(shape), chance.choice((1, 3, 4, 5))))
                    place = plain_place(shape, part)
                    if place is None:
                        self.assert_extended(prime, table, shape)
                    else:
                        self.assert_refused(NotWoven, (many, place), extended_table, prime, table, shape)
                        self.assert_refused(NotWoven, (many, place), extended_fault, prime, table, shape, None)

    def test_as_many_parts_as_rows(self):
        for table in (((1,),), ((0, -3),), ((2, 0), (-2, 4)), ((BIG, 1), (0, 4)), plain_wide(2, (3, 2, 1, 0), 8)):
            shape = plain_shape(2, table)
            self.assertEqual(extended_table(2, [list(row) for row in table], list(shape)), table)
            self.assertIsNone(extended_fault(2, table, shape, table))
            other = (shape[0] + 1,) + shape[1:]
            self.assert_refused(NotWoven, (len(shape), 0), extended_table, 2, table, other)

    def test_greater_parts(self):
        start = time.perf_counter()
        chance = random.Random(922)
        for shape, part in (((100, 60, 20), (70,)), ((100, 100, 100, 100), (100, 100)), ((100, 0, 0, 0), (0,)),
                            ((100, 80, 40, 1), (60, 30)), ((90, 60, 30, 0), (30,)), ((101, 101, 3), (50,))):
            for prime in PRIMES:
                self.assert_extended(prime, drawn_wide(chance, prime, part, 4), shape)
        self.assertLess(time.perf_counter() - start, 30)

    def test_wrong_arguments_in_their_order(self):
        for function in (extended_table, lambda *given: extended_fault(*given, None)):
            for prime in NO_PRIMES:
                self.assert_refused(BadPrime, (prime,), function, prime, None, None)
            for wrong, word in NO_LONGS:
                self.assert_refused(BadTable, (word,), function, 2, wrong, None)
            flat = ((1, 2, 3), (2, 4, 6))
            for wrong, word in NO_SHAPES + (((1,) * 5, "many"),):
                self.assert_refused(BadShape, (word,), function, 2, flat, wrong)
            self.assert_refused(BadShape, ("many",), function, 2, flat, (1,))
            self.assert_refused(BadShape, ("many",), function, 2, flat, (1, 1, 1, 1))
            self.assert_refused(BadShape, ("many",), function, 2, ((0,),), (1, 1))
            # The words of check_shape come ahead of the unlike lengths.
            self.assert_refused(BadShape, ("falling",), function, 2, ((1, 0, 0), (0, 1, 0), (0, 0, 1)), (1, 2))
            self.assert_refused(BadShape, ("number",), function, 2, flat, (True,))
            self.assert_refused(Flat, (), function, 2, flat, (1, 1))
            self.assert_refused(Flat, (), function, 2, flat, (1, 1, 1))
            self.assert_refused(NotWoven, (1, 0), function, 2, ((8, 0, 0),), (2, 1, 0))
            self.assert_refused(NotWoven, (2, 1), function, 2, ((2, 0, 0, 0), (0, 1, 0, 0)), (2, 1, 1, 1))

    def test_extended_fault(self):
        table = ((2, 0, 0), (0, 2, 0))
        good = table + ((0, 0, 4),)
        for wrong in [wrong for wrong, _ in NO_TABLES] + [table, good + ((1, 1, 1),), ((2, 0), (0, 2), (0, 0)),
                                                          tuple(row + (0,) for row in good)]:
            self.assertEqual(extended_fault(2, table, (2, 1, 1), wrong), "table")
        for wrong in (((2, 0, 0), (0, 2, 1), (0, 0, 4)), ((0, 2, 0), (2, 0, 0), (0, 0, 4)), ((0,) * 3,) * 3,
                      ((2, 0, 0), (0, -2, 0), (0, 0, 4))):
            self.assertEqual(extended_fault(2, table, (2, 1, 1), wrong), "rows")
        for wrong in (table + ((0, 0, 0),), table + ((2, 0, 0),), table + ((0, 0, 2),), table + ((1, 0, 4),)):
            self.assertEqual(extended_fault(2, table, (2, 1, 1), wrong), "shape")
        for right in (good, table + ((2, -2, -4),), [[2, 0, 0], [0, 2, 0], [6, 4, 12]]):
            self.assertIsNone(extended_fault(2, table, (2, 1, 1), right))
        self.assertEqual(extended_fault(2, ((2, 0), (2, 4)), (2, 1), ((2, 0), (2, 12))), "rows")


class TableWithRowsTest(PlainCase):
    def assert_rows(self, prime, shapes):
        table = table_with_rows(prime, shapes)
        shapes = tuple(tuple(shape) for shape in shapes)
        self.assert_tuples(table)
        self.assertEqual([len(row) for row in table], [len(shapes)] * len(shapes))
        self.assertTrue(all(number >= 0 for row in table for number in row))
        self.assertEqual(plain_chain_of_table(prime, table), shapes)
        self.assertIsNone(rows_fault(prime, shapes, table))

    def test_example(self):
        self.assert_rows(2, ((1,), (2, 1)))
        self.assertIsNone(rows_fault(2, ((1,), (2, 1)), ((2, 0), (2, 4))))
        self.assert_rows(3, ([2],))
        self.assert_rows(5, [[0], [0, 0], [0, 0, 0], [0, 0, 0, 0]])

    def test_all_small_chains(self):
        for shape in small_shapes() + [(4, 2, 0), (3, 2, 1, 0), (2, 2, 0, 0)]:
            for at, chain in enumerate(plain_row_chains(shape)):
                self.assert_rows(PRIMES[at % 3], chain)

    def test_greater_parts(self):
        start = time.perf_counter()
        for prime in PRIMES:
            self.assert_rows(prime, ((50,), (70, 30), (100, 60, 20), (100, 80, 40, 10)))
            self.assert_rows(prime, ((100,), (100, 100), (100, 100, 100), (100, 100, 100, 100)))
            self.assert_rows(prime, ((0,), (100, 0), (100, 0, 0), (100, 100, 0, 0)))
            self.assert_rows(prime, ((102,), (105, 101), (110, 103, 101)))
        self.assertLess(time.perf_counter() - start, 30)

    def test_wrong_arguments_in_their_order(self):
        for function in (table_with_rows, lambda *given: rows_fault(*given, None)):
            for prime in NO_PRIMES:
                self.assert_refused(BadPrime, (prime,), function, prime, None)
            for wrong in (None, 7, "ab", (), {0: (1,)}, iter(((1,),)), ((0,), (0, 0), (0, 0, 0), (0,) * 4, (0,) * 5)):
                self.assert_refused(BadShape, ("many",), function, 2, wrong)
            for wrong, word in (((7,), "many"), (((1, 0),), "many"), (((1,), (1,)), "many"), (((1,), (1, 0, 0)), "many"),
                                (((True,),), "number"), (((1,), (1, 2)), "falling"), (((9,), (1, -1)), "number"),
                                (((1,), (1, 2), None), "falling"), (((1,), None, (1, 2)), "many"),
                                (((9,), (1, 0), (1, 2, 3)), "falling"), (((1,), (True, 3)), "number")):
                self.assert_refused(BadShape, (word,), function, 2, wrong)
            for wrong, many, place in ((((3,), (2, 1)), 1, 0), (((0,), (2, 1)), 1, 0), (((1,), (1, 0), (0, 0, 0)), 2, 0),
                                       (((1,), (1, 1), (1, 0, 0)), 2, 1), (((3,), (2, 1), (0, 0, 0)), 1, 0),
                                       (((1,), (1, 0), (1, 0, 0), (1, 1, 1, 1)), 3, 1)):
                self.assert_refused(NotWoven, (many, place), function, 2, wrong)

    def test_all_couples_that_are_not_woven(self):
        for first in falling_rows(1, 3):
            for second in falling_rows(2, 2):
                for third in falling_rows(3, 2):
                    shapes = (first, second, third)
                    bad = [(k + 1, plain_place(shapes[k + 1], shapes[k])) for k in range(2)]
                    bad = [(many, place) for many, place in bad if place is not None]
                    if bad:
                        self.assert_refused(NotWoven, bad[0], table_with_rows, 2, shapes)
                    else:
                        self.assert_rows(2, shapes)

    def test_rows_fault(self):
        chain = ((1,), (2, 1))
        for wrong in [wrong for wrong, _ in NO_LONGS] + [((2,),), ((2, 0, 0), (2, 4, 0)), plain_diagonal(2, (2, 1, 0))]:
            self.assertEqual(rows_fault(2, chain, wrong), "table")
        for wrong in (((0, 0), (0, 0)), ((2, 0), (4, 0)), ((4, 0), (0, 2)), ((2, 0), (0, 2)), ((2, 4), (0, 2)), ((1, 0), (0, 8))):
            self.assertEqual(rows_fault(2, chain, wrong), "chain")
        for right in (((2, 0), (2, 4)), [[-2, 4], [0, 4]], ((0, 6), (4, 0)), ((2, 4), (4, 4))):
            self.assertIsNone(rows_fault(2, [list(shape) for shape in chain], right))

    def test_rows_fault_of_many_tables(self):
        chance = random.Random(923)
        chains = {}
        for shape in shapes_of_sum(2, 3) + shapes_of_sum(3, 2):
            prime = chance.choice(PRIMES)
            for _ in range(12):
                table = drawn_of_shape(chance, prime, shape)
                own = plain_chain_of_table(prime, table)
                chains[own] = True
                for chain in plain_row_chains(shape):
                    self.assertEqual(rows_fault(prime, chain, table), None if chain == own else "chain")
        self.assertGreater(len(chains), 4)


class KeepingTest(PlainCase):
    def test_what_is_passed_stays_and_answers_stay(self):
        table, shape, shapes, row = [[2, 0, 0]], [2, 1], [[1], [2, 1]], [2, 4, 0]
        longer, square = [[2, 0, 0], [2, 4, 0]], [[2, 0], [2, 4]]
        for call in (lambda: struck_row(square, 0), lambda: first_rows(square, 1), lambda: row_chain(2, table),
                     lambda: added_row(2, table, shape), lambda: extended_table(2, table, shape),
                     lambda: table_with_rows(2, shapes), lambda: added_fault(2, table, shape, row),
                     lambda: extended_fault(2, table, shape, longer), lambda: rows_fault(2, shapes, square)):
            self.assertEqual(call(), call())
            self.assertEqual((table, shape, shapes, row), ([[2, 0, 0]], [2, 1], [[1], [2, 1]], [2, 4, 0]))
            self.assertEqual((longer, square), ([[2, 0, 0], [2, 4, 0]], [[2, 0], [2, 4]]))


if __name__ == "__main__":
    unittest.main()
