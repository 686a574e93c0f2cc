import random
import unittest

from tests.plain import (
    BIG, NO_SEQUENCES, NO_SHAPES, NO_WHOLE, PlainCase, drawn_after, drawn_shape, plain_chain, small_fillings,
)
from threeshapes.errors import BadFilling, BadShape, BadStrands
from threeshapes.fillings import Filling, filling_of_chain
from threeshapes.listing import all_fillings, first_filling
from threeshapes.strands import filling_of_strands, strand_chain, strands_of

SIZES = ((1, 4), (2, 3), (3, 2), (4, 1))
EXAMPLE = Filling((1, 0), (2, 1), ((1, 1), (0,)))
LONG = filling_of_chain([[1] * many + [0] * (24 - many) for many in range(25)])


def plain_strands(counts):
    """The strands, from the place at which each letter comes for the t-th time."""
    strands = []
    for t in range(1, sum(counts[0]) + 1):
        strand = []
        for letter, row in enumerate(counts, 1):
            if sum(row) >= t:
                strand.append(min(letter + at for at in range(len(row)) if sum(row[:at + 1]) >= t))
        strands.append(tuple(strand))
    return tuple(strands)


def all_filled():
    """Fillings of all small shapes, and some of more rows."""
    for before, _, after, counts in small_fillings(SIZES):
        yield Filling(before, after, counts)
    chance = random.Random(211)
    for length, most in ((5, 2), (5, 3), (6, 2), (7, 1), (24, 1)):
        for _ in range(6):
            before = drawn_shape(chance, length, most)
            content = drawn_shape(chance, length, most) if length < 24 else (2, 1) + (0,) * 22
            for at, filling in enumerate(all_fillings(before, content, drawn_after(chance, before, content))):
                if at < 8:
                    yield filling


class StrandsOfTest(PlainCase):
    def test_example(self):
        self.assertEqual(strands_of(EXAMPLE), ((1,), (2,)))
        self.assertEqual(strands_of(Filling((2, 1, 0), (3, 2, 1), ((1, 0, 1), (1, 0), (0,)))), ((1, 2), (3,)))
        self.assertEqual(strands_of(Filling((2, 1, 0), (3, 2, 1), ((1, 1, 0), (0, 1), (0,)))), ((1, 3), (2,)))

    def test_against_the_words(self):
        for filling in all_filled():
            strands = strands_of(filling)
            self.assertEqual(strands, plain_strands(filling.counts))
            self.assert_tuples(strands)
            self.assertEqual(len(strands), filling.content[0])
            for strand in strands:
                self.assertTrue(strand)
                self.assertTrue(all(row < later for row, later in zip(strand, strand[1:])))
            for strand, later in zip(strands, strands[1:]):
                self.assertLessEqual(len(later), len(strand))
                self.assertTrue(all(row <= after for row, after in zip(strand, later)))

    def test_no_letters(self):
        self.assertEqual(strands_of(Filling((3,), (3,), ((0,),))), ())
        self.assertEqual(strands_of(filling_of_chain([[2] * 24] * 2)), ())

    def test_many_rows_and_many_strands(self):
        self.assertEqual(strands_of(LONG), (tuple(range(1, 25)),))
        self.assertEqual(strands_of(Filling((0,), (1000,), ((1000,),))), ((1,),) * 1000)
        wide = first_filling((0,) * 24, (1000,) * 24, (1000,) * 24)
        self.assertEqual(strands_of(wide), (tuple(range(1, 25)),) * 1000)


class StrandChainTest(PlainCase):
    def test_example(self):
        self.assertEqual(strand_chain(EXAMPLE), ((2, 1), (1, 1), (1, 0)))

    def test_against_the_words(self):
        for filling in all_filled():
            strands = plain_strands(filling.counts)
            chain = strand_chain(filling)
            self.assert_tuples(chain)
            wanted = []
            for at in range(len(strands) + 1):
                rest = [row for strand in strands[at:] for row in strand]
                wanted.append(tuple(part + rest.count(row) for row, part in enumerate(filling.before, 1)))
            self.assertEqual(chain, tuple(wanted))
            self.assertEqual((chain[0], chain[-1]), (filling.after, filling.before))
            for shape in chain:
                self.assertEqual(list(shape), sorted(shape, reverse=True))

    def test_no_letters(self):
        self.assertEqual(strand_chain(Filling((3,), (3,), ((0,),))), ((3,),))

    def test_many_rows(self):
        self.assertEqual(strand_chain(LONG), ((1,) * 24, (0,) * 24))
        self.assertEqual(len(strand_chain(Filling((0,), (1000,), ((1000,),)))), 1001)


class FillingOfStrandsTest(PlainCase):
    def test_there_and_back(self):
        for filling in all_filled():
            strands = strands_of(filling)
            self.assertTrue(filling_of_strands(filling.before, strands) == filling)
            lists = [list(strand) for strand in strands]
            self.assertTrue(filling_of_strands(list(filling.before), lists) == filling)
            self.assertEqual(lists, [list(strand) for strand in strands])

    def test_all_small_strands(self):
        """Just those before and strands are let that come from a filling."""
        for size, most in ((1, 3), (2, 3), (3, 2)):
            known = {}
            for before, _, after, counts in small_fillings(((size, most),)):
                known[before, plain_strands(counts)] = (after, counts)
            rows = [
                tuple(row for row in range(1, size + 1) if bits >> (row - 1) & 1)
                for bits in range(1, 2 ** size)
            ]
            strand_rows = [()] + [(one,) for one in rows] + [(one, other) for one in rows for other in rows]
            for before in sorted({before for before, _ in known}):
                for strands in strand_rows:
                    wanted = known.get((before, strands))
                    if wanted is not None:
                        filling = filling_of_strands(before, strands)
                        self.assertEqual((filling.before, filling.after, filling.counts), (before, *wanted))
                    else:
                        with self.assertRaises((BadStrands, BadFilling)):
                            filling_of_strands(before, strands)

    def test_no_strands(self):
        for nothing in ((), []):
            filling = filling_of_strands((2, 1), nothing)
            self.assertEqual((filling.before, filling.after, filling.counts), ((2, 1), (2, 1), ((0, 0), (0,))))

    def test_many_rows(self):
        self.assertTrue(filling_of_strands((0,) * 24, [range_row(24)]) == LONG)
        self.assertEqual(filling_of_strands([BIG], [[1]] * 3).after, (BIG + 3,))
        self.assertEqual(filling_of_strands((0,) * 24, [range_row(24)] * 1000).after, (1000,) * 24)

    def test_wrong_before(self):
        for wrong, word in NO_SHAPES:
            self.assert_refused(BadShape, (word,), filling_of_strands, wrong, None)
        self.assert_refused(BadShape, ("many",), filling_of_strands, (1,) * 25, ())

    def test_wrong_strands(self):
        for wrong in NO_SEQUENCES:
            self.assert_refused(BadStrands, (0,), filling_of_strands, (1, 0), wrong)
            self.assert_refused(BadStrands, (0,), filling_of_strands, (1, 0), [wrong])
            self.assert_refused(BadStrands, (1,), filling_of_strands, (1, 0), [(1,), wrong])
        for number in (0, 3, -1, BIG) + NO_WHOLE:
            self.assert_refused(BadStrands, (0,), filling_of_strands, (1, 0), [(number,)])
            self.assert_refused(BadStrands, (2,), filling_of_strands, (1, 0), [(1,), (1,), (number,)])
            self.assert_refused(BadStrands, (0,), filling_of_strands, (1, 0), [(1, number)])
            self.assert_refused(BadStrands, (0,), filling_of_strands, (1, 0), [(number, 2)])
        for wrong in ((), (2, 1), (1, 1), (1, 2, 2), (1, 2, 3)):
            self.assert_refused(BadStrands, (0,), filling_of_strands, (1, 0), (wrong,))
            self.assert_refused(BadStrands, (1,), filling_of_strands, (1, 0), ((1, 2), wrong))
        # Longer than the strand before it, and with a row less than the one there.
        self.assert_refused(BadStrands, (1,), filling_of_strands, (5, 3, 0), ((1,), (1, 2)))
        self.assert_refused(BadStrands, (1,), filling_of_strands, (5, 3, 0), ((2,), (1,)))
        self.assert_refused(BadStrands, (1,), filling_of_strands, (5, 3, 0), ((1, 3), (2, 2)))
        self.assert_refused(BadStrands, (2,), filling_of_strands, (5, 3, 0), ((1, 3), (1, 3), (1, 2)))

    def test_the_first_wrong_strand_is_told(self):
        self.assert_refused(BadStrands, (0,), filling_of_strands, (1, 0), ((), (7,)))
        self.assert_refused(BadStrands, (1,), filling_of_strands, (1, 0), ((2,), (1,), None))
        self.assert_refused(BadStrands, (1,), filling_of_strands, (1, 0), ((2,), (1, 2), (3,)))

    def test_no_filling(self):
        self.assert_refused(BadFilling, ("shapes",), filling_of_strands, (1, 1), ((2,),))
        self.assert_refused(BadFilling, ("shapes",), filling_of_strands, (3, 1, 0), ((1, 3), (3,)))
        self.assert_refused(BadFilling, ("column",), filling_of_strands, (0, 0), ((1,), (2,)))
        # The strands are asked ahead of both, and "shapes" ahead of "column".
        self.assert_refused(BadStrands, (1,), filling_of_strands, (1, 1), ((2,), (1,)))
        self.assert_refused(BadFilling, ("shapes",), filling_of_strands, (0, 0), ((1,), (2,), (2,)))

    def test_what_is_passed_stays_as_it_was(self):
        before, strands = [1, 0], [[1], [2]]
        filling = filling_of_strands(before, strands)
        self.assertEqual((before, strands), ([1, 0], [[1], [2]]))
        before[0] = 9
        strands[0][0] = 2
        self.assertTrue(filling == EXAMPLE)
        self.assertEqual(plain_chain((1, 0), filling.counts), filling.chain)


def range_row(many):
    return list(range(1, many + 1))


if __name__ == "__main__":
    unittest.main()
