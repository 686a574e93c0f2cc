import itertools
import random
import time
import unittest

from tests.plain import NO_PRIMES, PlainCase, drawn_shape, falling_rows, plain_product, plain_shape
from tests.plainbooks import (
    BOOKS, drawn_book, plain_come, plain_lots, plain_readings, plain_steps,
)
from tests.plainrows import drawn_of_shape, plain_count
from threeshapes.bars import first_bar
from threeshapes.books import Book
from threeshapes.errors import BadPrime, Shut
from threeshapes.readings import (
    Fitting, Reading, Why, all_readings, come_shapes, count_readings, first_reading, fitting_shapes, tables_of_book,
    why_shut,
)

PRIMES = (2, 3, 5)
EXAMPLE = (2, (((1, 0),), ((2, 0), (1, 1))), (None, ((2, 2), (3, 0), (1, 1))))
SHUT = (2, (((1, 0),), ((2, 0), (1, 1))), (None, ((2, 2), (1, 1))))


def told(reading):
    return (reading.factors, reading.beginnings)


def drawn_books(seed, many, **more):
    chance = random.Random(seed)
    return [drawn_book(chance, **more) for _ in range(many)]


def small_books():
    """All books of length 1 and 2 places with few shapes in their lots, and of length 2 with one shape or two."""
    lots = (None, ((0,),), ((1,), (2,)), ((2,), (3,)))
    for entries in itertools.product(lots, repeat=4):
        yield (1, entries[:2], entries[2:])
    lots = (((1, 0),), ((1, 1), (2, 0)), ())
    afters = (((1, 0), (1, 1)), ((2, 1),), ((2, 2), (3, 0)))
    for entries in itertools.product(lots, lots, afters, afters):
        yield (2, entries[:2], entries[2:])


def shut_place(come):
    return [place for place, shapes in enumerate(come) if not shapes][0]


class ReadingsTest(PlainCase):
    def assert_book(self, given):
        book = Book(*given)
        wanted = plain_readings(*given)
        found = list(all_readings(book))
        self.assertTrue(all(isinstance(reading, Reading) for reading in found))
        self.assertEqual([told(reading) for reading in found], wanted)
        self.assert_tuples(tuple(told(reading) for reading in found[:9]))
        self.assertEqual(count_readings(book), len(wanted))
        come = plain_come(*given)
        self.assertEqual(come_shapes(book), come)
        self.assert_tuples(come_shapes(book))
        fitting = fitting_shapes(book)
        self.assertIsInstance(fitting, Fitting)
        places = range(len(given[1]))
        self.assertEqual(fitting.factors, tuple(tuple(sorted({one[0][k] for one in wanted})) for k in places))
        self.assertEqual(fitting.beginnings, tuple(tuple(sorted({one[1][k] for one in wanted})) for k in places))
        self.assert_tuples((fitting.factors, fitting.beginnings))
        if wanted:
            self.assertIsNone(why_shut(book))
            self.assertEqual(told(first_reading(book)), wanted[0])
        else:
            self.assert_shut(given, book, shut_place(come), come)

    def assert_shut(self, given, book, place, come):
        self.assert_refused(Shut, (place,), first_reading, book)
        for prime in PRIMES:
            self.assert_refused(Shut, (place,), tables_of_book, prime, book)
        why = why_shut(book)
        self.assertIsInstance(why, Why)
        self.assertEqual(why.place, place)
        self.assertEqual(why.steps, plain_steps(*given, place, come[place - 1]) if place else ())
        self.assert_tuples(why.steps)
        for before, factor, after in why.steps:
            self.assertEqual(plain_count(before, factor, after), 0)
            self.assertEqual(first_bar(before, factor, after).what, "bar")

    def test_example(self):
        book = Book(*EXAMPLE)
        self.assertEqual([told(one) for one in all_readings(book)], [(((1, 0), (2, 0)), ((1, 0), (3, 0)))])
        self.assertEqual(come_shapes(book), (((1, 0),), ((3, 0),)))
        shut = Book(*SHUT)
        self.assert_refused(Shut, (1,), first_reading, shut)
        self.assertEqual((why_shut(shut).place, why_shut(shut).steps), (1, ()))
        self.assertEqual(come_shapes(shut), (((1, 0),), ()))

    def test_listed_books(self):
        for given in BOOKS:
            self.assert_book(given)

    def test_all_small_books(self):
        seen = {}
        for given in small_books():
            self.assert_book(given)
            seen[len(plain_readings(*given)) > 0] = True
        self.assertEqual(len(seen), 2)

    def test_drawn_books(self):
        places = {}
        for given in drawn_books(1011, 120) + drawn_books(1012, 60, lengths=(3,), nones=1):
            self.assert_book(given)
            come = plain_come(*given)
            places[shut_place(come) if () in come else None] = True
        self.assertEqual(len(places), 5)

    def test_bars_rule_out_all_steps(self):
        """Books that are shut although sums agree."""
        seen = 0
        for given in ((2, (((3, 0),), ((3, 0),)), (None, ((2, 2), (5, 0)))), (2, (((3, 0),), ((1, 1),)), (None, ((5, 0),))),
                      (3, (((2, 1, 0),), ((2, 1, 0),)), (None, ((5, 1, 0), (5, 0, 0), (6, 0, 0)))),
                      (3, (((1, 1, 1), (1, 0, 0)), ((1, 1, 0),)), (None, ((3, 2, 0), (3, 0, 0))))):
            self.assert_book(given)
            seen += len(why_shut(Book(*given)).steps)
        self.assertGreater(seen, 4)

    def test_books_shut_at_each_place(self):
        for place in range(4):
            beginnings = tuple(() if at == place else None for at in range(4))
            given = (2, (((1, 0), (1, 1)),) * 4, beginnings)
            self.assert_book(given)
            self.assertEqual((why_shut(Book(*given)).place, why_shut(Book(*given)).steps), (place, ()))
        given = (1, (((1,),),), (((2,),),))
        self.assert_book(given)
        self.assertEqual((why_shut(Book(*given)).place, why_shut(Book(*given)).steps), (0, ()))


class TablesOfBookTest(PlainCase):
    def assert_tables(self, prime, given):
        tables = tables_of_book(prime, Book(*given))
        factors, beginnings = plain_readings(*given)[0]
        self.assert_tuples(tables)
        self.assertEqual(len(tables), len(factors))
        product = None
        for table, factor, beginning in zip(tables, factors, beginnings):
            self.assertEqual([len(row) for row in table], [given[0]] * given[0])
            self.assertEqual(plain_shape(prime, table), factor)
            product = table if product is None else plain_product(product, table)
            self.assertEqual(plain_shape(prime, product), beginning)

    def test_tables_of_many_books(self):
        for given in BOOKS + tuple(drawn_books(1021, 40)):
            if plain_readings(*given):
                for prime in PRIMES:
                    self.assert_tables(prime, given)

    def test_each_reading_has_tables(self):
        for given in [EXAMPLE] + drawn_books(1022, 15):
            for factors, beginnings in plain_readings(*given)[:5]:
                one = (given[0], tuple((shape,) for shape in factors), tuple((shape,) for shape in beginnings))
                self.assertEqual(plain_readings(*one), [(factors, beginnings)])
                self.assert_tables(3, one)

    def test_all_tables_are_a_reading(self):
        chance = random.Random(1023)
        for _ in range(80):
            prime = chance.choice(PRIMES)
            length = chance.choice((1, 2, 3))
            factors = tuple(drawn_shape(chance, length, {1: 3, 2: 2, 3: 1}[length]) for _ in range(chance.randint(1, 3)))
            product = None
            beginnings = []
            for table in [drawn_of_shape(chance, prime, factor) for factor in factors]:
                product = table if product is None else plain_product(product, table)
                beginnings.append(plain_shape(prime, product))
            if max(shape[0] for shape in beginnings) <= 6:
                others = falling_rows(length, 2)
                lots = tuple(tuple(chance.choices(others, k=2)) + (factor,) for factor in factors)
                afters = tuple(None if length < 3 and chance.random() < 0.3 else (shape,) for shape in beginnings)
                found = [told(reading) for reading in all_readings(Book(length, lots, afters))]
                self.assertIn((factors, tuple(beginnings)), found)

    def test_wrong_arguments(self):
        for prime in NO_PRIMES:
            self.assert_refused(BadPrime, (prime,), tables_of_book, prime, Book(*EXAMPLE))
            self.assert_refused(BadPrime, (prime,), tables_of_book, prime, Book(*SHUT))


class KeepingTest(PlainCase):
    def test_the_book_stays_and_answers_stay(self):
        book = Book(*EXAMPLE)
        for call in (lambda: [told(one) for one in all_readings(book)], lambda: count_readings(book),
                     lambda: told(first_reading(book)), lambda: tables_of_book(2, book), lambda: come_shapes(book),
                     lambda: vars(fitting_shapes(book)), lambda: why_shut(book=book)):
            self.assertEqual(call(), call())
            self.assertTrue(book == Book(*EXAMPLE))
        several = Book(1, (None, None), (None, None))
        readings = all_readings(several)
        first = told(next(readings))
        self.assertEqual(told(first_reading(several)), first)
        self.assertEqual([first] + [told(one) for one in readings], plain_readings(1, (None, None), (None, None)))

    def test_quick_within_the_bounds(self):
        start = time.perf_counter()
        all_factors, all_beginnings = tuple(falling_rows(3, 3)), tuple(falling_rows(3, 6))
        book = Book(3, (all_factors,) * 4, (all_beginnings,) * 3 + (None,))
        self.assertGreater(count_readings(book), 100000)
        self.assertEqual(told(first_reading(book)), (((0, 0, 0),) * 4,) * 2)
        self.assertEqual(fitting_shapes(book).factors, (all_factors,) * 4)
        self.assertEqual(come_shapes(book)[0], all_factors)
        shut = Book(3, (all_factors,) * 4, (all_beginnings,) * 3 + ((),))
        why = why_shut(shut)
        self.assertEqual((why.place, why.steps), (3, ()))
        open_books = (Book(2, (None,) * 4, (None,) * 4), Book(1, (None,) * 4, (None,) * 4))
        for one in open_books:
            self.assertGreater(count_readings(one), 100)
            self.assertEqual(told(next(all_readings(one))), told(first_reading(one)))
        self.assertEqual(len(plain_lots(1, (None,), (None,))[0][1]), 7)
        self.assertLess(time.perf_counter() - start, 30)


if __name__ == "__main__":
    unittest.main()
