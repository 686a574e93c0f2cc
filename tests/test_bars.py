import itertools
import random
import unittest

from tests.plain import BIG, PlainCase, drawn_after, drawn_shape, falling_rows, plain_fillings, shapes_of_sum
from threeshapes.bars import Bars, Broken, bar_over, first_bar, pieces_of, split_at
from threeshapes.errors import BadShape, BadSize, BadTriple, NotTight
from threeshapes.listing import count_fillings, is_product
from threeshapes.triples import filled_triples, needful_triples

NOT_NEEDFUL = ((1, 3, 5), (1, 3, 5), (2, 4, 6))
NEEDFUL = {length: needful_triples(length) for length in range(2, 7)}
NEEDFUL[1] = ()
BARS = {length: Bars(length) for length in range(1, 7)}
TRIPLE = ((1,), (1,), (1,))


def plain_over(a, b, c, triple):
    ones, others, sums = triple
    over = 0
    for place in range(1, len(a) + 1):
        over += c[place - 1] * (place in sums) - a[place - 1] * (place in ones) - b[place - 1] * (place in others)
    return over


def small_threes():
    """Threes of shapes of 1 to 4 parts, most of them with sums that agree."""
    for length, most in ((1, 4), (2, 3), (3, 2), (4, 1)):
        for a in falling_rows(length, most):
            for b in falling_rows(length, most):
                for off in (-1, 0, 0, 1):
                    if sum(a) + sum(b) + off >= 0:
                        for c in shapes_of_sum(length, sum(a) + sum(b) + off, 2 * most):
                            yield a, b, c


def drawn_threes(many):
    """Threes of shapes of 1 to 6 parts with sums that agree."""
    chance = random.Random(91)
    for _ in range(many):
        length = chance.randint(1, 6)
        most = {1: 9, 2: 8, 3: 6, 4: 4, 5: 3, 6: 2}[length]
        a, b = [drawn_shape(chance, length, most) for _ in range(2)]
        yield a, b, drawn_after(chance, a, b)
        yield a, b, chance.choice(shapes_of_sum(length, sum(a) + sum(b)))


class BarsTest(PlainCase):
    def assert_broken(self, broken, values):
        if values is None:
            self.assertIsNone(broken)
        else:
            self.assertIs(broken.__class__, Broken)
            self.assertEqual((broken.what, broken.ones, broken.others, broken.sums, broken.over), values)
            self.assert_tuples(values)

    def plain_first(self, a, b, c):
        over = sum(c) - sum(a) - sum(b)
        if over != 0:
            return ("sum", (), (), (), over)
        for triple in NEEDFUL[len(a)]:
            over = plain_over(a, b, c, triple)
            if over > 0:
                return ("bar", *triple, over)
        return None

    def test_example(self):
        a = b = (2, 1, 0)
        self.assertEqual(bar_over(a, b, (4, 1, 1), TRIPLE), 0)
        self.assertEqual(split_at(a, b, (4, 1, 1), TRIPLE), (((2,), (2,), (4,)), ((1, 0), (1, 0), (1, 1))))
        self.assert_broken(first_bar(a, b, (5, 1, 0)), ("bar", (1,), (1,), (1,), 1))
        self.assertEqual(BARS[3].all_tight(a, b, (3, 2, 1)), ())
        self.assertIsNone(first_bar(a, b, (3, 2, 1)))

    def test_all_small_shapes(self):
        for a, b, c in small_threes():
            bars = BARS[len(a)]
            wanted = self.plain_first(a, b, c)
            self.assert_broken(first_bar(a, b, c), wanted)
            self.assert_broken(bars.first_broken(a, b, c), wanted)
            self.assertEqual(wanted is None, len(plain_fillings(a, b, c)) > 0)
            overs = [(triple, plain_over(a, b, c, triple)) for triple in NEEDFUL[len(a)]]
            self.assertEqual(bars.all_broken(a, b, c), tuple(triple for triple, over in overs if over > 0))
            self.assertEqual(bars.all_tight(a, b, c), tuple(triple for triple, over in overs if over == 0))

    def test_drawn_shapes_of_up_to_six_parts(self):
        made = 0
        for a, b, c in drawn_threes(250):
            wanted = self.plain_first(a, b, c)
            self.assert_broken(BARS[len(a)].first_broken(a, b, c), wanted)
            self.assertIs(is_product(a, b, c), wanted is None)
            made += wanted is None
        self.assertGreater(made, 100)
        for a, b, c in drawn_threes(20):
            self.assert_broken(first_bar(a, b, c), self.plain_first(a, b, c))

    def test_overs(self):
        for a, b, c in small_threes():
            for r in range(1, len(a)):
                for triple in itertools.islice(itertools.product(
                        itertools.combinations(range(1, len(a) + 1), r), repeat=3), 0, None, 7):
                    self.assertEqual(bar_over(a, b, c, triple), plain_over(a, b, c, triple))

    def test_great_parts(self):
        a, b = (3 * BIG, BIG), (2 * BIG, 0)
        self.assertIsNone(first_bar(a, b, (5 * BIG, BIG)))
        self.assert_broken(first_bar(a, b, (5 * BIG + 1, BIG - 1)), ("bar", (1,), (1,), (1,), 1))
        self.assert_broken(first_bar(a, b, (5 * BIG, BIG + 1)), ("sum", (), (), (), 1))
        self.assert_broken(first_bar(a, b, (5 * BIG, 0)), ("sum", (), (), (), -BIG))
        self.assertEqual(bar_over(a, b, (7 * BIG, 0), ((2,), (2,), (2,))), -BIG)
        six = tuple(BIG * part for part in (5, 4, 3, 2, 1, 0))
        self.assertIsNone(first_bar(six, six, tuple(2 * part for part in six)))

    def test_one_part(self):
        self.assertIsNone(first_bar((2,), (3,), (5,)))
        self.assert_broken(first_bar((2,), (3,), (4,)), ("sum", (), (), (), -1))
        self.assert_broken(first_bar([2], [3], [6]), ("sum", (), (), (), 1))

    def test_lists_are_let(self):
        a, b, c = [2, 1, 0], [2, 1, 0], [4, 1, 1]
        triple = [[1], [1], [1]]
        self.assertEqual(split_at(a, b, c, triple), (((2,), (2,), (4,)), ((1, 0), (1, 0), (1, 1))))
        self.assertEqual(bar_over(a, b, c, triple), 0)
        self.assertIsNone(first_bar(a, b, c))
        self.assertEqual(pieces_of(a, b, c)[0], ((2,), (2,), (4,)))
        self.assertIsNone(Bars(3).first_broken(a, b, c))
        self.assertEqual((a, b, c, triple), ([2, 1, 0], [2, 1, 0], [4, 1, 1], [[1], [1], [1]]))

    def test_a_later_change_of_what_was_passed_changes_no_bars(self):
        bars = Bars(3)
        a, b, c = [2, 1, 0], [2, 1, 0], [4, 1, 1]
        tight = bars.all_tight(a, b, c)
        pieces = pieces_of(a, b, c)
        a[0] = b[0] = c[0] = 9
        self.assertEqual(tight, BARS[3].all_tight((2, 1, 0), (2, 1, 0), (4, 1, 1)))
        self.assertEqual(pieces[0], ((2,), (2,), (4,)))
        self.assertEqual(vars(bars), {"length": 3, "triples": NEEDFUL[3]})

    def test_the_bar_that_is_not_needful_is_never_the_only_one(self):
        for a in falling_rows(6, 1):
            for b in falling_rows(6, 2):
                for c in shapes_of_sum(6, sum(a) + sum(b), 3):
                    if plain_over(a, b, c, NOT_NEEDFUL) > 0:
                        self.assertTrue(BARS[6].all_broken(a, b, c))
        # Where the sums do not agree it can be.
        self.assertEqual(bar_over((0,) * 6, (0,) * 6, (1,) * 6, NOT_NEEDFUL), 3)

    def test_attributes(self):
        for length in range(1, 7):
            bars = Bars(length)
            self.assertEqual(vars(bars), {"length": length, "triples": NEEDFUL[length]})
            self.assert_tuples(bars.triples)

    def test_results_keep_what_they_are_given(self):
        values = [object() for _ in range(5)]
        self.assertEqual(vars(Broken(*values)), dict(zip(("what", "ones", "others", "sums", "over"), values)))


class BarsErrorsTest(PlainCase):
    def functions(self, length):
        bars = BARS[length]
        return (first_bar, pieces_of, bars.first_broken, bars.all_broken, bars.all_tight,
                lambda a, b, c: bar_over(a, b, c, "x"), lambda a, b, c: split_at(a, b, c, "x"))

    def test_sizes(self):
        for length in (0, 7, -1, True, None, 2.0, "2", BIG):
            self.assert_refused(BadSize, (length,), Bars, length)

    def test_each_shape(self):
        for function in self.functions(2):
            for wrong, word in ((None, "many"), ("21", "many"), ((), "many"), ((1,) * 7, "many"), ((True, 0), "number"),
                                ((1, -1), "number"), ((1, 2), "falling")):
                self.assert_refused(BadShape, (word,), function, wrong, (1, 0), (1, 0))
                self.assert_refused(BadShape, (word,), function, (1, 0), wrong, (1, 0))
                self.assert_refused(BadShape, (word,), function, (1, 0), (1, 0), wrong)

    def test_more_than_six_parts(self):
        for function in self.functions(6):
            self.assert_refused(BadShape, ("many",), function, (1,) * 7, (1,) * 7, (2,) * 7)
            self.assert_refused(BadShape, ("many",), function, (1,) * 7, (1, 2), (2,) * 7)

    def test_the_order_of_the_shapes(self):
        for function in self.functions(2):
            self.assert_refused(BadShape, ("falling",), function, (1, 2), (True,), None)
            self.assert_refused(BadShape, ("number",), function, (1, 0), (True,), None)
            self.assert_refused(BadShape, ("number",), function, (1, 0), (1,), (None,))

    def test_unlike_lengths(self):
        for function in self.functions(2):
            self.assert_refused(BadShape, ("many",), function, (1,), (1, 0), (1, 0))
            self.assert_refused(BadShape, ("many",), function, (1, 0), (1,), (1, 0))
            self.assert_refused(BadShape, ("many",), function, (1, 0), (1, 0), (1,))

    def test_shapes_of_another_length_than_the_bars(self):
        bars = BARS[3]
        for method in (bars.first_broken, bars.all_broken, bars.all_tight):
            self.assert_refused(BadShape, ("many",), method, (1, 0), (1, 0), (1, 0))
            self.assert_refused(BadShape, ("many",), method, (1,) * 4, (1,) * 4, (1,) * 4)
            self.assert_refused(BadShape, ("falling",), method, (1, 0), (1, 0), (0, 1))

    def test_triples(self):
        for function in (bar_over, split_at):
            for triple, word in (("x", "rows"), (((1,), (1,)), "rows"), (((True,), (1,), (1,)), "number"),
                                 (((1,), (3,), (1,)), "number"), (((1, 2),) * 3, "many")):
                self.assert_refused(BadTriple, (word,), function, (1, 0), (1, 0), (1, 1), triple)
            self.assert_refused(BadSize, (1,), function, (1,), (1,), (2,), TRIPLE)
            self.assert_refused(BadSize, (1,), function, (1,), (1,), (2,), None)
            self.assert_refused(BadShape, ("many",), function, (1,), (1, 0), (2,), None)


class SplittingTest(PlainCase):
    def test_not_tight(self):
        self.assert_refused(NotTight, (1,), split_at, (2, 1, 0), (2, 1, 0), (5, 1, 0), TRIPLE)
        self.assert_refused(NotTight, (-2,), split_at, (2, 1, 0), (2, 1, 0), (2, 2, 2), TRIPLE)
        for a, b, c in small_threes():
            for triple in NEEDFUL[len(a)]:
                over = plain_over(a, b, c, triple)
                if over != 0:
                    self.assert_refused(NotTight, (over,), split_at, a, b, c, triple)

    def test_numbers_are_products(self):
        seen = 0
        for a, b, c in itertools.chain(small_threes(), drawn_threes(60)):
            for triple in BARS[len(a)].all_tight(a, b, c):
                inside, outside = split_at(a, b, c, triple)
                ones, others, sums = triple
                self.assertEqual(inside[2], tuple(c[place - 1] for place in sums))
                self.assertEqual([len(shape) for shape in inside], [len(ones)] * 3)
                self.assertEqual(sorted(inside[0] + outside[0]), sorted(a))
                self.assertEqual(sorted(inside[1] + outside[1]), sorted(b))
                self.assertEqual(sorted(inside[2] + outside[2]), sorted(c))
                self.assertEqual(outside[0], tuple(part for at, part in enumerate(a, 1) if at not in ones))
                self.assertEqual(count_fillings(*inside) * count_fillings(*outside), count_fillings(a, b, c))
                seen += count_fillings(a, b, c) > 0
        self.assertGreater(seen, 100)

    def test_splits_at_triples_that_are_not_needful(self):
        inside, outside = split_at((1, 1, 0, 0, 0, 0), (1, 1, 1, 1, 0, 0), (3, 3, 0, 0, 0, 0), NOT_NEEDFUL)
        self.assertEqual(inside, ((1, 0, 0), (1, 1, 0), (3, 0, 0)))
        self.assertEqual(outside, ((1, 0, 0), (1, 1, 0), (3, 0, 0)))
        self.assertEqual(split_at((1, 0), (1, 0), (2, 1), ((2,), (1,), (2,)))[0], ((0,), (1,), (1,)))
        self.assertEqual(split_at((3, 3), (1, 1), (4, 4), ((2,), (2,), (1,))), (((3,), (1,), (4,)), ((3,), (1,), (4,))))

    def test_pieces(self):
        for a, b, c in itertools.chain(small_threes(), drawn_threes(60)):
            row = [(a, b, c)]
            at = 0
            while at < len(row):
                piece = row[at]
                length = len(piece[0])
                tight = [triple for triple in NEEDFUL[length] if plain_over(*piece, triple) == 0]
                if length > 1 and tight:
                    row[at:at + 1] = split_at(*piece, tight[0])
                else:
                    at += 1
            pieces = pieces_of(a, b, c)
            self.assertEqual(pieces, tuple(row))
            self.assert_tuples(pieces)
            number = 1
            for piece in pieces:
                number *= count_fillings(*piece)
            self.assertEqual(number, count_fillings(a, b, c))

    def test_few_pieces(self):
        self.assertEqual(pieces_of((2,), (3,), (9,)), (((2,), (3,), (9,)),))
        self.assertEqual(pieces_of((2, 1, 0), (2, 1, 0), (3, 2, 1)), (((2, 1, 0), (2, 1, 0), (3, 2, 1)),))
        self.assertEqual(pieces_of((2, 1, 0), (2, 1, 0), (4, 1, 1)), (
            ((2,), (2,), (4,)), ((1,), (0,), (1,)), ((0,), (1,), (1,)),
        ))
        self.assertEqual(pieces_of((0,) * 6, (0,) * 6, (0,) * 6), (((0,), (0,), (0,)),) * 6)


if __name__ == "__main__":
    unittest.main()
