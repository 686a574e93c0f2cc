import itertools
import random
import time
import unittest

from tests.plain import BIG, NO_SEQUENCES, PlainCase, falling_rows
from tests.plainbooks import BOOKS, drawn_book, plain_readings, plain_sayings, plain_without
from threeshapes.books import Book
from threeshapes.errors import BadPool, BadWhat
from threeshapes.mends import check_pool, choice_fault, find_blocks, find_mends
from threeshapes.readings import count_readings

SHUT = (2, (((1, 0),), ((2, 0), (1, 1))), (None, ((2, 2), (1, 1))))
POOL = (("factor", 0), ("factor", 1), ("beginning", 1))
# No sayings of the book above.
NO_SAYINGS = (None, 7, "factor", (), ("factor",), ("factor", 0, 0), ("factor", True), ("factor", False), ("factor", 1.0),
              ("factor", -1), ("factor", 2), ("beginning", 0), ("beginnings", 1), (0, "factor"), (None, 0), ("factor", None),
              (["factor"], 0), ("factor", BIG), {"factor": 0})


def choices_of(many):
    """All choices, by their number of items, then ascending."""
    return [choice for size in range(many + 1) for choice in itertools.combinations(range(many), size)]


class Reckoning:
    """Which choices of a pool mend and block, by the readings of all books with sayings left out."""

    def __init__(self, given, pool):
        self.all = choices_of(len(pool))
        self.is_open = {
            choice: bool(plain_readings(*plain_without(*given, [pool[index] for index in choice])))
            for choice in self.all
        }
        whole = set(range(len(pool)))
        others = {choice: tuple(sorted(whole - set(choice))) for choice in self.all}
        self.mending = [choice for choice in self.all if self.is_open[choice]]
        self.blocking = [choice for choice in self.all if not self.is_open[others[choice]]]
        self.least_mends = least_of(self.mending)
        self.least_blocks = least_of(self.blocking)


def least_of(choices):
    return [one for one in choices if not any(set(other) < set(one) for other in choices)]


class MendsTest(PlainCase):
    def assert_pool(self, given, pool):
        book = Book(*given)
        known = Reckoning(given, pool)
        mends, blocks = list(find_mends(book, pool)), list(find_blocks(book, pool))
        self.assertEqual(mends, known.least_mends)
        self.assertEqual(blocks, known.least_blocks)
        self.assert_tuples((tuple(mends), tuple(blocks)))
        for choice in known.all:
            for what, all_of_them, least in (("mend", known.mending, mends), ("block", known.blocking, blocks)):
                wanted = None if choice in least else "more" if choice in all_of_them else "short"
                self.assertEqual(choice_fault(book, pool, choice, what), wanted)
                self.assertEqual(choice_fault(book, [list(one) for one in pool], list(choice), what), wanted)
            self.assertIs(choice in known.mending, all(set(choice) & set(block) for block in blocks))
            self.assertIs(choice in known.blocking, all(set(choice) & set(mend) for mend in mends))
        return mends, blocks

    def test_example(self):
        self.assertEqual(self.assert_pool(SHUT, POOL), ([(0,), (1,), (2,)], [(0, 1, 2)]))
        self.assertEqual(self.assert_pool(SHUT, POOL[1:]), ([(0,), (1,)], [(0, 1)]))
        self.assertEqual(self.assert_pool(SHUT, POOL[::-1][1:]), ([(0,), (1,)], [(0, 1)]))
        self.assertEqual(self.assert_pool(SHUT, POOL[:1]), ([(0,)], [(0,)]))

    def test_a_book_with_a_reading(self):
        for given in BOOKS:
            if plain_readings(*given):
                pool = plain_sayings(*given[1:])[:3]
                self.assertEqual(self.assert_pool(given, pool), ([()], []))

    def test_a_book_without_a_reading_even_without_the_pool(self):
        for given, pool in ((SHUT, ()), ((1, ((), None), (None, None)), ()), ((1, ((), ((1,),)), (None, None)), (("factor", 1),)),
                            ((2, (((1, 0),),) * 2, (((0, 0),), ())), (("factor", 0), ("factor", 1)))):
            self.assertEqual(self.assert_pool(given, pool), ([], [()]))

    def test_two_mends_that_share_nothing(self):
        given = (1, (((1,),), ((1,),)), (((2,),), ((5,),)))
        mends, blocks = self.assert_pool(given, plain_sayings(*given[1:]))
        self.assertGreater(len(mends), 1)
        self.assertGreater(len(blocks), 1)

    def test_all_small_pools(self):
        lots = (None, ((0,),), ((3,),), ((1,), (2,)), ())
        for entries in itertools.product(lots, repeat=4):
            given = (1, entries[:2], entries[2:])
            sayings = plain_sayings(*given[1:])
            self.assert_pool(given, sayings)

    def test_pools_of_six(self):
        chance = random.Random(1031)
        seen = {}
        for _ in range(40):
            given = drawn_book(chance, lengths=(1,), places=(3, 4), nones=1)
            sayings = plain_sayings(*given[1:])
            pool = tuple(chance.sample(sayings, min(6, len(sayings))))
            mends, blocks = self.assert_pool(given, pool)
            seen[len(mends) > 1 and len(blocks) > 1] = True
        self.assertEqual(len(seen), 2)

    def test_drawn_books(self):
        chance = random.Random(1032)
        for _ in range(40):
            given = drawn_book(chance, lengths=(2,), places=(2, 3), nones=1)
            sayings = plain_sayings(*given[1:])
            self.assert_pool(given, tuple(chance.sample(sayings, min(3, len(sayings)))))
        for _ in range(6):
            given = drawn_book(chance, lengths=(3,), places=(2,), nones=0)
            self.assert_pool(given, tuple(chance.sample(plain_sayings(*given[1:]), 1)))

    def test_forgetting_more_takes_no_reading_away(self):
        chance = random.Random(1033)
        for _ in range(20):
            given = drawn_book(chance, lengths=(1, 2), places=(2, 3))
            book = Book(*given)
            for saying in book.sayings:
                self.assertGreaterEqual(count_readings(book.without([saying])), count_readings(book))


class PoolTest(PlainCase):
    def test_check_pool(self):
        book = Book(*SHUT)
        for pool in ((), POOL, POOL[::-1], POOL[1:2]):
            for thing in (pool, list(pool), [list(saying) for saying in pool]):
                found = check_pool(book, thing)
                self.assertEqual(found, pool)
                self.assert_tuples(found)
        wide = Book(1, (((1,),),) * 4, (((1,),),) * 4)
        self.assertEqual(check_pool(wide, wide.sayings[:6]), wide.sayings[:6])
        self.assertEqual(check_pool(pool=wide.sayings[2:], book=wide), wide.sayings[2:])

    def test_bad_pools(self):
        book = Book(*SHUT)
        wide = Book(1, (((1,),),) * 4, (((1,),),) * 4)
        functions = (check_pool, lambda *given: list(find_mends(*given)), lambda *given: list(find_blocks(*given)),
                     lambda *given: choice_fault(*given, None, None))
        for function in functions:
            for wrong in NO_SEQUENCES:
                self.assert_refused(BadPool, (0,), function, book, wrong)
            self.assert_refused(BadPool, (0,), function, wide, wide.sayings[:7])
            self.assert_refused(BadPool, (0,), function, wide, wide.sayings)
            self.assert_refused(BadPool, (0,), function, wide, (None,) * 7)
            for wrong in NO_SAYINGS:
                for index in range(4):
                    pool = list(POOL)[:index] + [wrong] + list(POOL)[index:]
                    self.assert_refused(BadPool, (index,), function, book, pool)
            for index, pool in ((1, (POOL[0], POOL[0])), (3, POOL + (list(POOL[1]),)), (2, (POOL[1], POOL[0], POOL[1], None))):
                self.assert_refused(BadPool, (index,), function, book, pool)


class ChoiceFaultTest(PlainCase):
    def test_what(self):
        book = Book(*SHUT)
        for what in (None, 7, True, "mends", "", "Mend", ["mend"], ("block",), b"mend", {"mend": 1}):
            self.assert_refused(BadWhat, (), choice_fault, book, POOL, None, what)
        self.assert_refused(BadPool, (0,), choice_fault, book, None, None, "mends")

    def test_form(self):
        book = Book(*SHUT)
        for what in ("mend", "block"):
            for wrong in NO_SEQUENCES + ((3,), (-1,), (True,), (False, 1), (0.0,), ("0",), (None,), (0, 0), (1, 0), (0, 2, 1),
                                         (0, 1, 2, 3), (BIG,), ((0,),), [0, 1, 1]):
                self.assertEqual(choice_fault(book, POOL, wrong, what), "form")
            self.assertEqual(choice_fault(book, (), (0,), what), "form")

    def test_words(self):
        book = Book(*SHUT)
        for choice, mend, block in (((), "short", "short"), ((0,), None, "short"), ((2,), None, "short"),
                                    ((0, 1), "more", "short"), ((0, 1, 2), "more", None)):
            self.assertEqual(choice_fault(book, POOL, choice, "mend"), mend)
            self.assertEqual(choice_fault(what="block", choice=list(choice), pool=POOL, book=book), block)
        self.assertIsNone(choice_fault(book, (), (), "block"))
        self.assertEqual(choice_fault(book, (), (), "mend"), "short")


class KeepingTest(PlainCase):
    def test_what_is_passed_stays_and_answers_stay(self):
        book = Book(*SHUT)
        pool, choice = [["factor", 0], ["factor", 1], ["beginning", 1]], [0, 1]
        for call in (lambda: check_pool(book, pool), lambda: list(find_mends(book, pool)), lambda: list(find_blocks(book, pool)),
                     lambda: choice_fault(book, pool, choice, "mend")):
            self.assertEqual(call(), call())
            self.assertTrue(book == Book(*SHUT))
            self.assertEqual((pool, choice), ([["factor", 0], ["factor", 1], ["beginning", 1]], [0, 1]))
        mends = find_mends(book, pool)
        first = next(mends)
        self.assertEqual(next(find_mends(book, pool)), first)
        self.assertEqual([first] + list(mends), [(0,), (1,), (2,)])

    def test_quick_within_the_bounds(self):
        start = time.perf_counter()
        wide = Book(1, (((3,),),) * 4, (None, None, None, ((6,), (0,))))
        self.assertGreater(len(list(find_mends(wide, wide.sayings))), 1)
        self.assertGreater(len(list(find_blocks(wide, wide.sayings))), 0)
        afters = tuple(falling_rows(3, 6))
        book = Book(3, (((1, 0, 0),), tuple(falling_rows(3, 3)), ((1, 1, 1),)), (None, afters, ((6, 6, 6),)))
        pool = (("factor", 0), ("factor", 2), ("beginning", 2))
        self.assertEqual(list(find_mends(book, pool)), [(0,), (1,), (2,)])
        self.assertEqual(list(find_blocks(book, pool)), [(0, 1, 2)])
        self.assertLess(time.perf_counter() - start, 30)


if __name__ == "__main__":
    unittest.main()
