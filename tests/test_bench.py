import random
import time
import unittest

from tests.plain import BIG, NO_SEQUENCES, NO_WHOLE, PlainCase, falling_rows
from tests.plainbooks import BOOKS, drawn_book, plain_come, plain_readings, plain_sayings, plain_without
from threeshapes.bench import Bench
from threeshapes.books import Book
from threeshapes.errors import BadBook, BadDeed, BadPlace, BadSayings, NothingDone, Shut, TableError
from threeshapes.readings import all_readings, count_readings

EXAMPLE = (2, (((1, 0),), ((2, 0), (1, 1))), (None, ((2, 2), (3, 0), (1, 1))))
SHUT = (2, (((1, 0),), ((2, 0), (1, 1))), (None, ((2, 2), (1, 1))))
# No deeds, of whatever book.
NO_DEEDS = (
    None, 7, True, "fit", "factor", (), [], ("fit", 0), ("fit", ()), ("Fit",), ("mend",), (None,), (7,), (("fit",),), (["fit"],),
    ("factor",), ("factor", 0), ("factor", 0, None, None), ("beginning", 0), ("beginning",), ("beginning", 0, None, 1),
    ("forget",), ("forget", (), ()), ("factors", 0, None), ("forget", 0, None), ("fit", 0, None), (True, 0, None),
    {"fit": 1}, iter(("fit",)), (b"fit",), (["factor"], 0, None),
)


def told(bench):
    return (bench.book.length, bench.book.factors, bench.book.beginnings, bench.log)


class BenchCase(PlainCase):
    def assert_stays(self, bench, error, fields, function, *given):
        """The call raises this error and leaves the bench as it was."""
        book, before = bench.book, told(bench)
        self.assert_refused(error, fields, function, *given)
        self.assertEqual(told(bench), before)
        self.assertTrue(bench.book == book)

    def assert_log(self, bench, log):
        self.assertEqual(bench.log, log)
        self.assertIsInstance(bench.log, tuple)
        for deed in bench.log:
            self.assertIsInstance(deed, tuple)
            self.assertTrue(plain_throughout(deed))


def plain_throughout(thing):
    """Whether the thing is made of tuples, numbers, texts and None all the way down."""
    if isinstance(thing, tuple):
        return all(plain_throughout(item) for item in thing)
    return thing is None or thing.__class__ in (int, str)


class DeedsTest(BenchCase):
    def test_a_new_bench(self):
        book = Book(*EXAMPLE)
        bench = Bench(book=book)
        self.assertTrue(bench.book == book)
        self.assert_log(bench, ())
        self.assert_stays(bench, NothingDone, (), bench.take_back)

    def test_say_factor_and_say_beginning(self):
        bench = Bench(Book(*EXAMPLE))
        self.assertIsNone(bench.say_factor(0, [[1, 1], [1, 0], [1, 1]]))
        self.assertTrue(bench.book == Book(2, (((1, 0), (1, 1)), EXAMPLE[1][1]), EXAMPLE[2]))
        self.assertIsNone(bench.say_beginning(lot=None, place=1))
        self.assertTrue(bench.book == Book(2, (((1, 0), (1, 1)), EXAMPLE[1][1]), (None, None)))
        self.assertIsNone(bench.say_beginning(0, []))
        self.assertIsNone(bench.say_factor(place=1, lot=None))
        self.assertTrue(bench.book == Book(2, (((1, 0), (1, 1)), None), ((), None)))
        self.assert_log(bench, (("factor", 0, ((1, 0), (1, 1))), ("beginning", 1, None), ("beginning", 0, ()),
                                ("factor", 1, None)))

    def test_forget_sayings(self):
        bench = Bench(Book(*EXAMPLE))
        self.assertIsNone(bench.forget_sayings([["beginning", 1], ("factor", 0)]))
        self.assertTrue(bench.book == Book(2, (None, EXAMPLE[1][1]), (None, None)))
        self.assertIsNone(bench.forget_sayings(()))
        self.assertIsNone(bench.forget_sayings(sayings=(["factor", 1],)))
        self.assertTrue(bench.book == Book(2, (None, None), (None, None)))
        self.assert_log(bench, (("forget", (("beginning", 1), ("factor", 0))), ("forget", ()), ("forget", (("factor", 1),))))

    def test_fit_lots(self):
        bench = Bench(Book(*EXAMPLE))
        self.assertIsNone(bench.fit_lots())
        self.assertTrue(bench.book == Book(2, (((1, 0),), ((2, 0),)), (((1, 0),), ((3, 0),))))
        self.assertIsNone(bench.fit_lots())
        self.assert_log(bench, (("fit",), ("fit",)))
        bench.take_back()
        bench.take_back()
        self.assertTrue(bench.book == Book(*EXAMPLE))

    def test_fit_lots_of_many_books(self):
        chance = random.Random(1101)
        for given in BOOKS + tuple(drawn_book(chance) for _ in range(40)):
            bench = Bench(Book(*given))
            readings = plain_readings(*given)
            if not readings:
                place = plain_come(*given).index(())
                self.assert_stays(bench, Shut, (place,), bench.fit_lots)
                self.assert_stays(bench, Shut, (place,), bench.read_book)
                continue
            bench.fit_lots()
            self.assertEqual([(one.factors, one.beginnings) for one in all_readings(bench.book)], readings)
            self.assertEqual(len(bench.book.sayings), 2 * len(given[1]))
            for word, lots in (("factor", bench.book.factors), ("beginning", bench.book.beginnings)):
                for place, lot in enumerate(lots):
                    at = 0 if word == "factor" else 1
                    self.assertEqual(lot, tuple(sorted({one[at][place] for one in readings})))
            self.assertEqual((bench.read_book().factors, bench.read_book().beginnings), readings[0])

    def test_a_deed_that_changes_nothing_stands_in_the_log(self):
        bench = Bench(Book(*EXAMPLE))
        bench.say_factor(0, ((1, 0),))
        bench.say_beginning(0, None)
        bench.forget_sayings([])
        self.assertTrue(bench.book == Book(*EXAMPLE))
        self.assert_log(bench, (("factor", 0, ((1, 0),)), ("beginning", 0, None), ("forget", ())))

    def test_errors_leave_the_bench(self):
        for bench in (Bench(Book(*EXAMPLE)), Bench(Book(*SHUT))):
            for _ in range(2):
                for function, word in ((bench.say_factor, "factor"), (bench.say_beginning, "beginning")):
                    for place in NO_WHOLE + (-1, 2, BIG):
                        self.assert_stays(bench, BadPlace, (), function, place, 7)
                    for lot in (7, "10", ((1, 2),), ((1,),), ((7, 0),), ((True, 0),), (None,), ((1, 0),) * 101):
                        self.assert_stays(bench, BadBook, (word, 1), function, 1, lot)
                self.assert_stays(bench, BadBook, ("factor", 0), bench.say_factor, 0, ((4, 0),))
                for wrong in NO_SEQUENCES:
                    self.assert_stays(bench, BadSayings, (0,), bench.forget_sayings, wrong)
                for index, wrong in ((0, (("beginning", 0),)), (1, (("factor", 1), ("factor", True))),
                                     (1, (("factor", 1), ["factor", 1])), (2, (("factor", 1), ("beginning", 1), None))):
                    self.assert_stays(bench, BadSayings, (index,), bench.forget_sayings, wrong)
                bench.say_factor(0, ((1, 0),))
        self.assert_stays(bench, Shut, (1,), bench.fit_lots)
        self.assert_stays(bench, Shut, (1,), bench.read_book)

    def test_take_back(self):
        bench = Bench(Book(*EXAMPLE))
        states = [told(bench)]
        for deed in (lambda: bench.say_factor(1, None), bench.fit_lots, lambda: bench.forget_sayings((("beginning", 0),)),
                     lambda: bench.say_beginning(0, ())):
            deed()
            states.append(told(bench))
        for state in states[::-1][1:]:
            self.assertIsNone(bench.take_back())
            self.assertEqual(told(bench), state)
        self.assert_stays(bench, NothingDone, (), bench.take_back)
        # What is taken back can't be done again by taking back.
        bench.say_factor(0, None)
        bench.take_back()
        self.assert_stays(bench, NothingDone, (), bench.take_back)
        self.assertEqual(told(bench), states[0])


class ManyDeedsTest(BenchCase):
    def test_example(self):
        bench = Bench(Book(*EXAMPLE))
        self.assertEqual(bench.try_deeds((("factor", 1, ((1, 1),)),)), 0)
        self.assertEqual(bench.try_deeds([["forget", [["beginning", 1]]]]),
                         len(plain_readings(*plain_without(*EXAMPLE, [("beginning", 1)]))))
        self.assertEqual(bench.try_deeds(deeds=()), 1)
        self.assertTrue(bench.book == Book(*EXAMPLE))
        self.assert_log(bench, ())

    def test_do_deeds(self):
        bench = Bench(Book(*EXAMPLE))
        bench.say_factor(0, ((1, 0), (1, 1)))
        deeds = [["beginning", 0, [[1, 1], [1, 0]]], ("forget", [("factor", 0)]), ["fit"], ["factor", 1, None]]
        self.assertIsNone(bench.do_deeds(deeds))
        self.assert_log(bench, (("factor", 0, ((1, 0), (1, 1))), ("beginning", 0, ((1, 0), (1, 1))),
                                ("forget", (("factor", 0),)), ("fit",), ("factor", 1, None)))
        other = Bench(Book(*EXAMPLE))
        self.assertIsNone(other.do_deeds(deeds=bench.log))
        self.assertEqual(told(other), told(bench))
        self.assertEqual(deeds, [["beginning", 0, [[1, 1], [1, 0]]], ("forget", [("factor", 0)]), ["fit"], ["factor", 1, None]])
        one_by_one = Bench(Book(*EXAMPLE))
        states = [told(one_by_one)]
        for deed in bench.log:
            one_by_one.do_deeds((deed,))
            states.append(told(one_by_one))
        # Each deed can be taken back by itself.
        for state in states[::-1]:
            self.assertEqual(told(bench), state)
            if state != states[0]:
                bench.take_back()
        self.assertIsNone(bench.do_deeds(()))
        self.assertIsNone(bench.do_deeds([]))
        self.assertEqual(told(bench), states[0])

    def test_bad_deeds(self):
        bench = Bench(Book(*EXAMPLE))
        bench.say_factor(0, None)
        good = (("factor", 0, None), ["forget", ()], ["fit"])
        for function in (bench.do_deeds, bench.try_deeds):
            for wrong in NO_SEQUENCES:
                self.assert_stays(bench, BadDeed, (0,), function, wrong)
            for wrong in NO_DEEDS:
                for index in range(4):
                    deeds = good[:index] + (wrong,) + good[index:]
                    self.assert_stays(bench, BadDeed, (index,), function, deeds)
            # Asked of all deeds ahead of what the first of them raises.
            self.assert_stays(bench, BadDeed, (2,), function, (("factor", 9, None), ("forget", None), None))
            self.assert_stays(bench, BadDeed, (1,), function, (("beginning", 0, 7), None, ("fit", 0)))

    def test_deeds_that_raise(self):
        bench = Bench(Book(*EXAMPLE))
        bench.say_beginning(0, ((1, 0), (0, 0)))
        good = (("factor", 0, ((1, 0), (1, 1))), ("forget", (("beginning", 0),)), ("fit",))
        for function in (bench.do_deeds, bench.try_deeds):
            for many in range(4):
                for wrong, error, fields in (
                    (("factor", 2, None), BadPlace, ()), (("beginning", True, None), BadPlace, ()),
                    (("factor", 1, ((4, 0),)), BadBook, ("factor", 1)), (["beginning", 0, 7], BadBook, ("beginning", 0)),
                    (("forget", None), BadSayings, (0,)), (["forget", [["factor", 1], ["factor", 1]]], BadSayings, (1,)),
                ):
                    self.assert_stays(bench, error, fields, function, good[:many] + (wrong,) + good)
            self.assert_stays(bench, Shut, (1,), function, (("factor", 1, ()), ("fit",)))
            self.assert_stays(bench, Shut, (0,), function, [["beginning", 0, []], ["fit"], ["factor", 9, None]])
            # What the first deeds forget is no saying for the later ones.
            forget = ("forget", (("factor", 0),))
            self.assert_stays(bench, BadSayings, (0,), function, (forget, forget))

    def test_two_benches_on_one_book(self):
        book = Book(*EXAMPLE)
        one, other = Bench(book), Bench(book)
        one.do_deeds((("forget", (("factor", 0),)), ("beginning", 0, ((1, 1),))))
        self.assertEqual(told(other), (*EXAMPLE[:1], book.factors, book.beginnings, ()))
        self.assertTrue(other.book == Book(*EXAMPLE))
        self.assertTrue(book == Book(*EXAMPLE))
        other.fit_lots()
        self.assertEqual(one.log, (("forget", (("factor", 0),)), ("beginning", 0, ((1, 1),))))
        log = one.log
        one.take_back()
        self.assertEqual(len(log), 2)

    def test_what_is_passed_is_not_kept(self):
        bench = Bench(Book(*EXAMPLE))
        lot, sayings = [[1, 0]], [["factor", 1]]
        deeds = [["factor", 0, lot], ["forget", sayings]]
        bench.say_beginning(0, lot)
        bench.do_deeds(deeds)
        before = told(bench)
        lot[0][0] = 3
        lot.append(None)
        sayings[0][1] = 0
        deeds.clear()
        self.assertEqual(told(bench), before)
        bench.take_back()
        bench.take_back()
        bench.take_back()
        self.assertTrue(bench.book == Book(*EXAMPLE))


class DrawnDeedsTest(BenchCase):
    def drawn_deed(self, chance, book):
        word = chance.choice(("factor", "factor", "beginning", "beginning", "forget", "fit"))
        if word == "fit":
            return ("fit",)
        if word == "forget":
            return ("forget", tuple(chance.sample(book.sayings, min(len(book.sayings), chance.randint(0, 2)))))
        place = chance.randrange(len(book.factors) + (chance.random() < 0.1))
        most = {1: 3, 2: 3, 3: 2}[book.length] + (word == "beginning") + (chance.random() < 0.1) * 9
        shapes = falling_rows(book.length, most)
        return (word, place, chance.choice((None, tuple(chance.choices(shapes, k=chance.randint(0, 6))))))

    def plain_after(self, given, deed):
        """The three arguments of the book after the deed; None if it has to raise."""
        length, factors, beginnings = given
        if deed[0] == "fit":
            readings = plain_readings(*given)
            if not readings:
                return None
            return (length, *[
                tuple(tuple(sorted({one[at][place] for one in readings})) for place in range(len(factors))) for at in (0, 1)
            ])
        if deed[0] == "forget":
            known = plain_sayings(factors, beginnings)
            return plain_without(*given, deed[1]) if set(deed[1]) <= set(known) else None
        word, place, lot = deed
        most = 3 if word == "factor" else 6
        if place >= len(factors) or (lot and max(shape[0] for shape in lot) > most):
            return None
        entries = list(factors if word == "factor" else beginnings)
        entries[place] = None if lot is None else tuple(sorted(set(lot)))
        return (length, tuple(entries), beginnings) if word == "factor" else (length, factors, tuple(entries))

    def test_against_a_plain_bench(self):
        chance = random.Random(1111)
        raised = 0
        for given in list(BOOKS) + [drawn_book(chance, places=(1, 2, 3)) for _ in range(25)]:
            if given[0] == 3:
                continue
            start = Bench(Book(*given)).book
            bench, states, log = Bench(start), [(given[0], start.factors, start.beginnings)], []
            for _ in range(12):
                if log and chance.random() < 0.2:
                    bench.take_back()
                    states.pop()
                    log.pop()
                else:
                    deeds = [self.drawn_deed(chance, bench.book) for _ in range(chance.choice((1, 1, 2, 3)))]
                    raised += self.do_both(bench, states, log, deeds)
                self.assertEqual(told(bench), (*states[-1], tuple(log)))
            self.assertTrue(start == Book(*given))
        self.assertGreater(raised, 20)

    def do_both(self, bench, states, log, deeds):
        after = [states[-1]]
        for deed in deeds:
            after.append(after[-1] and self.plain_after(after[-1], deed))
        before = told(bench)
        if after[-1] is None:
            for function in (bench.try_deeds, bench.do_deeds):
                with self.assertRaises(TableError):
                    function(deeds)
                self.assertEqual(told(bench), before)
            return 1
        self.assertEqual(bench.try_deeds(deeds), len(plain_readings(*after[-1])))
        self.assertEqual(told(bench), before)
        bench.do_deeds(deeds)
        for state, deed in zip(after[1:], deeds):
            states.append(state)
            kept = deed
            if deed[0] in ("factor", "beginning"):
                kept = (*deed[:2], state[1 if deed[0] == "factor" else 2][deed[1]])
            log.append(kept)
        return 0

    def test_quick_within_the_bounds(self):
        start = time.perf_counter()
        bench = Bench(Book(3, (tuple(falling_rows(3, 3)),) * 4, (tuple(falling_rows(3, 6)),) * 4))
        bench.fit_lots()
        self.assertEqual(bench.try_deeds((("factor", 0, ((0, 0, 0),)), ("fit",))),
                         count_readings(bench.book.with_factor(0, ((0, 0, 0),))))
        self.assertLess(time.perf_counter() - start, 30)


if __name__ == "__main__":
    unittest.main()
