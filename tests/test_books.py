import itertools
import random
import unittest

from tests.plain import BIG, NO_SEQUENCES, NO_WHOLE, PlainCase, falling_rows
from tests.plainbooks import BOOKS, drawn_book, plain_lot, plain_sayings, plain_without
from threeshapes.books import Book
from threeshapes.errors import BadBook, BadPlace, BadSayings

# No lots of shapes of two parts with parts to 3.
NO_LOTS = (
    7, True, "10", {0: (1, 0)}, iter(()), (7,), ((1, 0), None), ((1, 0), "10"), ((1,),), ((1, 0, 0),), ((),), ((1, 2),),
    ((True, 0),), ((1.0, 0),), ((1, -1),), (1, 0), ((1, 0), (1, 0), (0, 1)), ((1, 0),) * 101, ((7, 0),), ((BIG, 0),),
)
# No sayings of the book below.
NO_SAYINGS = (
    None, 7, "factor", (), ("factor",), ("factor", 0, 0), ("factor", True), ("factor", False), ("factor", 0.0),
    ("factor", "0"), ("factor", -1), ("factor", 3), ("factor", 1), ("beginning", 0), ("beginnings", 1), ("", 0), (0, "factor"),
    (None, 0), (["factor"], 0), ("factor", None), ("factor", BIG), {"factor": 0}, iter(("factor", 0)),
)
KNOWN = (("factor", 0), ("beginning", 1), ("factor", 2), ("beginning", 2))


def some_book():
    return Book(2, (((1, 0),), None, ((2, 0), (1, 1))), (None, ((3, 1), (2, 2)), ()))


def told(book):
    return (book.length, book.factors, book.beginnings)


class BookTest(PlainCase):
    def assert_kept(self, length, factors, beginnings, book):
        self.assertEqual(book.length, length)
        self.assertIs(book.length.__class__, int)
        for entries, kept, most in ((factors, book.factors, 3), (beginnings, book.beginnings, 6)):
            self.assertIsInstance(kept, tuple)
            self.assertEqual(len(kept), len(entries))
            for entry, lot in zip(entries, kept):
                self.assertEqual(lot, None if entry is None else tuple(plain_lot(length, entry, most)))
                if lot is not None:
                    self.assert_tuples(lot)

    def test_books_are_kept(self):
        chance = random.Random(1001)
        for given in BOOKS + tuple(drawn_book(chance) for _ in range(60)):
            self.assert_kept(*given, Book(*given))
            length, factors, beginnings = given
            lists = [
                [entry if entry is None else [list(shape) for shape in entry] for entry in entries]
                for entries in (factors, beginnings)
            ]
            self.assert_kept(*given, Book(beginnings=lists[1], factors=lists[0], length=length))

    def test_lots_of_none_of_100_and_doubles(self):
        self.assertEqual(told(Book(1, [[]], [()])), (1, ((),), ((),)))
        self.assertEqual(told(Book(2, ([[1, 0]] * 100,), (((2, 1), (1, 0)) * 50,))), (2, (((1, 0),),), (((1, 0), (2, 1)),)))
        all_factors, all_beginnings = falling_rows(3, 3), falling_rows(3, 6)
        self.assertEqual((len(all_factors), len(all_beginnings)), (20, 84))
        self.assertEqual(told(Book(3, (all_factors[::-1],), (all_beginnings[::-1],))),
                         (3, (tuple(all_factors),), (tuple(all_beginnings),)))

    def test_words(self):
        good = ((1, 0),)
        for length in NO_WHOLE + (0, 4, -1, BIG):
            self.assert_refused(BadBook, ("length", 0), Book, length, None, None)
        for wrong in NO_SEQUENCES + ((), [], (good,) * 5):
            self.assert_refused(BadBook, ("factors", 0), Book, 2, wrong, None)
        for place in range(4):
            for wrong in NO_LOTS + (((4, 0),), ((3, 0), (4, 4))):
                factors = (good,) * place + (wrong,) + (good,) * (3 - place)
                self.assert_refused(BadBook, ("factor", place), Book, 2, factors, None)
                self.assert_refused(BadBook, ("factor", place), Book, 2, factors[:place + 1] + (7,) * (3 - place), 7)
            for wrong in NO_LOTS:
                beginnings = (good,) * place + (wrong,) + (good,) * (3 - place)
                self.assert_refused(BadBook, ("beginning", place), Book, 2, (None,) * 4, beginnings)
                worse = beginnings[:place + 1] + (7,) * (3 - place)
                self.assert_refused(BadBook, ("beginning", place), Book, 2, (None,) * 4, worse)
        for many in range(1, 5):
            for wrong in NO_SEQUENCES + ((), (None,) * (many + 1), (None,) * (many - 1), (7,) * (many + 1)):
                self.assert_refused(BadBook, ("beginnings", 0), Book, 2, (good,) * many, wrong)

    def test_parts_to_3_and_to_6(self):
        for length in (1, 2, 3):
            factor, beginning = (3,) * length, (6,) * length
            self.assertEqual(told(Book(length, ((factor,),), ((beginning,),))), (length, ((factor,),), ((beginning,),)))
            above = (4,) + (0,) * (length - 1)
            self.assert_refused(BadBook, ("factor", 0), Book, length, ((above,),), (None,))
            above = (7,) + (0,) * (length - 1)
            self.assert_refused(BadBook, ("beginning", 0), Book, length, (None,), ((above,),))
            for other in (1, 2, 3, 4):
                if other != length:
                    self.assert_refused(BadBook, ("factor", 0), Book, length, (((1,) * other,),), (None,))
                    self.assert_refused(BadBook, ("beginning", 0), Book, length, (None,), (((1,) * other,),))

    def test_equality(self):
        books = [Book(*given) for given in BOOKS]
        for (at, one), (place, other) in itertools.product(enumerate(books), repeat=2):
            self.assertIs(one == other, at == place)
            self.assertIs(one != other, at != place)
        self.assertTrue(some_book() == some_book())
        self.assertTrue(Book(1, (((2,), (1,), (2,)),), ([],)) == Book(1, [[[1], [2]]], ((),)))
        self.assertFalse(Book(1, ((),), (None,)) == Book(2, ((),), (None,)))
        self.assertFalse(Book(1, ((),), (None,)) == Book(1, (None,), ((),)))
        for thing in (None, 1, (2, (None,), (None,)), "book"):
            self.assertFalse(Book(2, (None,), (None,)) == thing)


class SayingsTest(PlainCase):
    def test_sayings(self):
        chance = random.Random(1002)
        for given in BOOKS + tuple(drawn_book(chance, nones=4) for _ in range(40)):
            found = Book(*given).sayings
            self.assertEqual(found, plain_sayings(*given[1:]))
            self.assert_tuples(found)
        self.assertEqual(some_book().sayings, KNOWN)
        self.assertEqual(Book(3, (None,) * 4, (None,) * 4).sayings, ())

    def test_without(self):
        chance = random.Random(1003)
        for given in BOOKS + tuple(drawn_book(chance) for _ in range(20)):
            book = Book(*given)
            for many in range(min(len(book.sayings), 3) + 1):
                for sayings in itertools.permutations(book.sayings, many):
                    found = book.without([list(saying) for saying in sayings])
                    self.assertTrue(found == Book(*plain_without(*given, sayings)))
                    self.assertEqual(set(found.sayings), set(book.sayings) - set(sayings))
            self.assertTrue(book == Book(*given))
            self.assertIsNot(book.without(()), book)

    def test_no_sayings(self):
        book = some_book()
        for wrong in NO_SEQUENCES:
            self.assert_refused(BadSayings, (0,), book.without, wrong)
        for wrong in NO_SAYINGS:
            for index in range(5):
                sayings = list(KNOWN)[:index] + [wrong] + list(KNOWN)[index:]
                self.assert_refused(BadSayings, (index,), book.without, sayings)
        for index, sayings in ((1, (("factor", 0), ("factor", 0))), (2, (("factor", 0), ("beginning", 1), ["factor", 0])),
                               (4, KNOWN + KNOWN), (1, (("factor", 0), ["factor", 0], None)), (0, (("factor", 1), None))):
            self.assert_refused(BadSayings, (index,), book.without, sayings)
        # What is forgotten is no saying any more.
        self.assert_refused(BadSayings, (0,), book.without(KNOWN[:1]).without, KNOWN[:1])


class OtherBooksTest(PlainCase):
    def test_with_other_entries(self):
        chance = random.Random(1004)
        for given in BOOKS + tuple(drawn_book(chance) for _ in range(20)):
            book = Book(*given)
            length, factors, beginnings = given
            for place in range(len(factors)):
                for lot in (None, (), [[0] * length], ([1] * length, (3,) + (0,) * (length - 1), [1] * length)):
                    found = book.with_factor(place, lot)
                    self.assertTrue(found == Book(length, factors[:place] + (lot,) + factors[place + 1:], beginnings))
                    found = book.with_beginning(lot=lot, place=place)
                    self.assertTrue(found == Book(length, factors, beginnings[:place] + (lot,) + beginnings[place + 1:]))
            self.assertTrue(book == Book(*given))

    def test_no_place(self):
        book = some_book()
        for place in NO_WHOLE + (-1, 3, BIG):
            self.assert_refused(BadPlace, (), book.with_factor, place, 7)
            self.assert_refused(BadPlace, (), book.with_beginning, place, 7)
        self.assert_refused(BadPlace, (), Book(1, (None,), (None,)).with_factor, 1, None)

    def test_no_lots(self):
        book = some_book()
        for place in range(3):
            for wrong in NO_LOTS:
                self.assert_refused(BadBook, ("factor", place), book.with_factor, place, wrong)
                self.assert_refused(BadBook, ("beginning", place), book.with_beginning, place, wrong)
            self.assert_refused(BadBook, ("factor", place), book.with_factor, place, ((4, 0),))
            self.assertEqual(book.with_beginning(place, ((6, 4), (4, 0))).beginnings[place], ((4, 0), (6, 4)))

    def test_first_places(self):
        for given in BOOKS:
            book = Book(*given)
            length, factors, beginnings = given
            for many in range(1, len(factors) + 1):
                self.assertTrue(book.first_places(many) == Book(length, factors[:many], beginnings[:many]))
            for many in NO_WHOLE + (0, -1, len(factors) + 1, BIG):
                self.assert_refused(BadPlace, (), book.first_places, many)

    def test_what_is_passed_stays_and_is_not_kept(self):
        factors, beginnings = [[[2, 0], [1, 0]], None], [None, [[3, 0], [2, 1]]]
        book = Book(2, factors, beginnings)
        sayings, lot = [["factor", 0]], [[1, 1], [0, 0]]
        for call in (lambda: book.without(sayings), lambda: book.with_factor(1, lot), lambda: book.with_beginning(0, lot),
                     lambda: book.first_places(1)):
            self.assertTrue(call() == call())
            self.assertEqual((sayings, lot), ([["factor", 0]], [[1, 1], [0, 0]]))
        self.assertEqual((factors, beginnings), ([[[2, 0], [1, 0]], None], [None, [[3, 0], [2, 1]]]))
        factors[0][0][0] = 3
        factors.append(None)
        beginnings[1].clear()
        self.assertEqual(told(book), (2, (((1, 0), (2, 0)), None), (None, ((2, 1), (3, 0)))))


if __name__ == "__main__":
    unittest.main()
