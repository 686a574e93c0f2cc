import itertools
import unittest

from tests.plain import BIG, PlainCase, falling_rows, keeps_rules, plain_chain, small_fillings
from threeshapes.errors import BadFilling, NoRow
from threeshapes.fillings import Filling, filling_of_chain

BEFORE = (2, 1, 0)
AFTER = (3, 2, 1)
FIRST = ((1, 0, 1), (1, 0), (0,))
SECOND = ((1, 1, 0), (0, 1), (0,))
NO_SHAPES = (None, 7, "210", (), (1, 2), (True,), (1, -1), [1.0], (1,) * 25, {1: 1}, {1}, (None, 1))


class FillingTest(PlainCase):
    def test_example(self):
        one = Filling(BEFORE, AFTER, FIRST)
        self.assertEqual((one.before, one.after, one.counts), (BEFORE, AFTER, FIRST))
        self.assertEqual(one.content, (2, 1, 0))
        self.assertEqual(one.chain, ((2, 1, 0), (3, 1, 1), (3, 2, 1), (3, 2, 1)))
        other = Filling(BEFORE, AFTER, SECOND)
        self.assertEqual(other.content, (2, 1, 0))
        self.assertEqual(other.chain, ((2, 1, 0), (3, 2, 0), (3, 2, 1), (3, 2, 1)))

    def test_all_small_fillings(self):
        for before, content, after, counts in small_fillings():
            filling = Filling(before, after, counts)
            self.assertEqual((filling.before, filling.after, filling.counts), (before, after, counts))
            self.assertEqual(filling.content, content)
            self.assertEqual(filling.chain, plain_chain(before, counts))
            self.assert_tuples((filling.before, filling.after, filling.counts, filling.content, filling.chain))

    def test_lists_are_let_and_not_kept(self):
        before, after, counts = [2, 1, 0], [3, 2, 1], [[1, 0, 1], [1, 0], [0]]
        filling = Filling(before, after, counts)
        self.assertEqual((before, after, counts), ([2, 1, 0], [3, 2, 1], [[1, 0, 1], [1, 0], [0]]))
        before[0] = 9
        after.append(0)
        counts[0][0] = 7
        counts.pop()
        self.assertEqual((filling.before, filling.after, filling.counts), (BEFORE, AFTER, FIRST))
        self.assertEqual(filling.chain, ((2, 1, 0), (3, 1, 1), (3, 2, 1), (3, 2, 1)))
        self.assert_tuples((filling.before, filling.after, filling.counts, filling.content, filling.chain))

    def test_one_row_and_many_rows(self):
        one = Filling((BIG,), (2 * BIG,), ((BIG,),))
        self.assertEqual((one.content, one.chain), ((BIG,), ((BIG,), (2 * BIG,))))
        nothing = [[0] * (24 - at) for at in range(24)]
        still = Filling([1] * 24, [1] * 24, nothing)
        self.assertEqual((still.content, len(still.chain)), ((0,) * 24, 25))
        nothing[0][0] = 5
        self.assertEqual(Filling([1] * 24, [6] + [1] * 23, nothing).content, (5,) + (0,) * 23)

    def test_every_row_of_the_chain_is_a_shape(self):
        for before, _, after, counts in small_fillings():
            filling = Filling(before, after, counts)
            for shape in filling.chain + (filling.content,):
                self.assertTrue(all(part >= later for part, later in zip(shape, shape[1:])))

    def test_shapes(self):
        for wrong in NO_SHAPES:
            self.assert_refused(BadFilling, ("shapes",), Filling, wrong, (1,), ((0,),))
            self.assert_refused(BadFilling, ("shapes",), Filling, (1,), wrong, ((0,),))
        self.assert_refused(BadFilling, ("shapes",), Filling, (1,), (1, 0), ((0, 0), (0,)))
        self.assert_refused(BadFilling, ("shapes",), Filling, (1, 0), (1,), ((0,),))

    def test_counts(self):
        for wrong in (None, 7, "ab", (), FIRST[:2], FIRST + ((0,),), (FIRST[0], FIRST[1], ()), ((1, 0), (1, 0), (0,)),
                      ((1, 0, 1), (1,), (0,)), ((1, 0, 1), (1, 0), (0, 0)), ((1, 0, True), (1, 0), (0,)),
                      ((1, 0, 1), (1, -1), (0,)), ((1, 0, 1.0), (1, 0), (0,)), ("101", "10", "0"),
                      ((1, 0, 1), {1: 1, 0: 0}, (0,)), ((1, 0, 1), None, (0,))):
            self.assert_refused(BadFilling, ("counts",), Filling, BEFORE, AFTER, wrong)

    def test_after(self):
        self.assert_refused(BadFilling, ("after",), Filling, BEFORE, (3, 2, 0), FIRST)
        self.assert_refused(BadFilling, ("after",), Filling, BEFORE, (4, 2, 1), FIRST)
        self.assert_refused(BadFilling, ("after",), Filling, (0,), (2,), ((1,),))

    def test_column(self):
        # The letter 1 would stand twice in a column.
        self.assert_refused(BadFilling, ("column",), Filling, (0, 0), (1, 1), ((1, 1), (0,)))
        # The letter 2 would stand on the letter 2.
        self.assert_refused(BadFilling, ("column",), Filling, (1, 0, 0), (2, 1, 1), ((1, 0, 0), (1, 1), (0,)))

    def test_word(self):
        self.assert_refused(BadFilling, ("word",), Filling, (2, 0), (2, 1), ((0, 0), (1,)))
        # The letter 1 comes later than the letter 2 above it.
        self.assert_refused(BadFilling, ("word",), Filling, (3, 1, 0), (3, 2, 1), ((0, 0, 1), (1, 0), (0,)))
        self.assert_refused(BadFilling, ("word",), Filling, (2, 2, 0), (3, 2, 1), ((1, 0, 0), (0, 0), (1,)))

    def test_earlier_words_come_first(self):
        self.assert_refused(BadFilling, ("shapes",), Filling, (1, 2), (1,), None)
        self.assert_refused(BadFilling, ("shapes",), Filling, (1,), (True,), ((5,),))
        self.assert_refused(BadFilling, ("counts",), Filling, (0, 0), (9, 9), ((1, 1), (True,)))
        self.assert_refused(BadFilling, ("after",), Filling, (0, 0), (9, 9), ((1, 1), (5,)))
        # Both COLUMN and WORD are broken.
        self.assert_refused(BadFilling, ("column",), Filling, (1, 0, 0), (1, 1, 1), ((0, 0, 0), (1, 1), (0,)))

    def test_every_rule_over_all_small_counts(self):
        kept = 0
        for size, most, top in ((2, 3, 4), (3, 2, 3)):
            for numbers in itertools.product(range(most), repeat=size * (size + 1) // 2):
                left = list(numbers)
                counts = tuple(tuple(left.pop(0) for _ in range(size - at)) for at in range(size))
                for before in falling_rows(size, 2):
                    after = plain_chain(before, counts)[-1]
                    if max(after) <= top and list(after) == sorted(after, reverse=True):
                        right = keeps_rules(before, counts, after)
                        kept += right
                        if right:
                            self.assertEqual(Filling(before, after, counts).counts, counts)
                        else:
                            with self.assertRaises(BadFilling) as caught:
                                Filling(before, after, counts)
                            self.assertIn(caught.exception.what, ("column", "word"))
        self.assertGreater(kept, 50)

    def test_equality(self):
        one = Filling(BEFORE, AFTER, FIRST)
        self.assertTrue(one == Filling(list(BEFORE), list(AFTER), [list(row) for row in FIRST]))
        self.assertFalse(one != Filling(BEFORE, AFTER, FIRST))
        self.assertFalse(one == Filling(BEFORE, AFTER, SECOND))
        self.assertTrue(one != Filling(BEFORE, AFTER, SECOND))
        self.assertFalse(Filling((1,), (2,), ((1,),)) == Filling((2,), (3,), ((1,),)))
        for thing in (None, FIRST, (BEFORE, AFTER, FIRST), "filling", 0):
            self.assertFalse(one == thing)
            self.assertTrue(one != thing)


class LettersInRowTest(PlainCase):
    def test_letters(self):
        one = Filling(BEFORE, AFTER, FIRST)
        self.assertEqual([one.letters_in_row(row) for row in (1, 2, 3)], [(1,), (2,), (1,)])
        other = Filling((5, 3, 0), (8, 6, 3), ((3, 2, 1), (1, 1), (1,)))
        self.assertEqual([other.letters_in_row(row) for row in (1, 2, 3)], [(1, 1, 1), (1, 1, 2), (1, 2, 3)])
        self.assert_tuples(other.letters_in_row(3))
        self.assertEqual(Filling((0,), (1000,), ((1000,),)).letters_in_row(1), (1,) * 1000)
        self.assertEqual(Filling((3,), (3,), ((0,),)).letters_in_row(1), ())

    def test_letters_over_all_small_fillings(self):
        for before, _, after, counts in small_fillings():
            filling = Filling(before, after, counts)
            for row in range(1, len(before) + 1):
                letters = filling.letters_in_row(row)
                self.assertEqual(len(letters), after[row - 1] - before[row - 1])
                self.assertEqual(list(letters), sorted(letters))
                for letter in range(1, row + 1):
                    self.assertEqual(letters.count(letter), counts[letter - 1][row - letter])

    def test_no_row(self):
        filling = Filling(BEFORE, AFTER, FIRST)
        for row in (0, 4, -1, True, None, 1.0, "1", BIG):
            self.assert_refused(NoRow, (row,), filling.letters_in_row, row)


class FillingOfChainTest(PlainCase):
    def test_chains_of_fillings(self):
        for before, _, after, counts in small_fillings():
            filling = Filling(before, after, counts)
            self.assertTrue(filling_of_chain(filling.chain) == filling)
            self.assertTrue(filling_of_chain([list(shape) for shape in filling.chain]) == filling)

    def test_short_chains(self):
        for before, _, after, counts in small_fillings():
            chain = Filling(before, after, counts).chain
            for long in range(2, len(chain) + 1):
                if chain[long - 1] == chain[-1]:
                    self.assertEqual(filling_of_chain(chain[:long]).counts, counts)
        short = filling_of_chain(((1, 0, 0), (2, 1, 0)))
        self.assertEqual(short.counts, ((1, 1, 0), (0, 0), (0,)))
        self.assertEqual((short.before, short.after), ((1, 0, 0), (2, 1, 0)))
        steps = [[1] * many + [0] * (24 - many) for many in range(25)]
        self.assertEqual(filling_of_chain(steps).counts, tuple((1,) + (0,) * (23 - at) for at in range(24)))
        long = filling_of_chain([[0] * 24, [5] + [0] * 23])
        self.assertEqual([sum(row) for row in long.counts], [5] + [0] * 23)

    def test_shapes(self):
        for wrong in (None, 7, "ab", (), ((1,),), ((1,), (1,), (1,)), ((1, 0), (1,)), ((1,), (1, 0)), (None, (1,)),
                      ((1, 2), (1, 2)), ((True,), (1,)), ((1,), None), ((1,), (-1,)), ((1,) * 25, (1,) * 25),
                      ((1, 0),) * 4, ((1,) * 24,) * 26, ((), ()), ((1, 0), (1,), (2, 0)),
                      ((1, 0), (1, 0, 0), (2, 0)), ((1,) * 24,) * 25 + ((1,) * 23,), {(1,): 1, (2,): 1}, ((1, 1), (1, 1), (1, 2))):
            self.assert_refused(BadFilling, ("shapes",), filling_of_chain, wrong)

    def test_counts(self):
        for wrong in (((1, 0), (0, 0)), ((2,), (1,)), ((1, 0), (1, 0), (2, 0)), ((2, 2), (2, 1)),
                      ((2, 1, 0), (2, 1, 0), (2, 1, 0), (2, 2, 0)), ((2, 1), (2, 2), (2, 1))):
            self.assert_refused(BadFilling, ("counts",), filling_of_chain, wrong)
        self.assertEqual(filling_of_chain(((1, 0), (2, 0), (2, 0))).counts, ((1, 0), (0,)))

    def test_column_and_word(self):
        self.assert_refused(BadFilling, ("column",), filling_of_chain, ((0, 0), (1, 1)))
        self.assert_refused(BadFilling, ("word",), filling_of_chain, ((2, 0), (2, 0), (2, 1)))

    def test_earlier_words_come_first(self):
        # The column of the first letter and the counts of the second one are wrong.
        self.assert_refused(BadFilling, ("counts",), filling_of_chain, ((0, 0), (1, 1), (1, 0)))
        self.assert_refused(BadFilling, ("shapes",), filling_of_chain, ((1, 0), (0, 0), (0, 1)))
        self.assert_refused(BadFilling, ("column",), filling_of_chain, ((1, 0, 0), (1, 0, 0), (1, 1, 1)))

    def test_what_is_passed_stays_as_it_was(self):
        chain = [[1, 0], [2, 0], [2, 1]]
        filling = filling_of_chain(chain)
        self.assertEqual(chain, [[1, 0], [2, 0], [2, 1]])
        chain[0][0] = 5
        self.assertEqual(filling.chain, ((1, 0), (2, 0), (2, 1)))


if __name__ == "__main__":
    unittest.main()
