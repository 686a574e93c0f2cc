import random
import unittest

from tests.plain import (
    NO_PRIMES, NO_SQUARES, PlainCase, drawn_inverses, drawn_invertible, drawn_square, drawn_turned, plain_determinant,
    plain_exponent, plain_flipped, plain_product, plain_shape, small_fillings,
)
from threeshapes.backfilling import back_chain, back_filling, strand_filling, strand_shapes
from threeshapes.errors import BadPrime, BadTable, Flat, TooLong, UnlikeSizes
from threeshapes.fillings import Filling
from threeshapes.making import made_tables
from threeshapes.turning import inverse_modulo, turn_table

PRIMES = (2, 3, 5)
ONE = ((2, 0), (0, 1))
OTHER = ((2, 1), (0, 2))
ALL = (back_chain, back_filling, strand_shapes, strand_filling)


def plain_turned_about(shape, length):
    return tuple(sum(part >= number for part in shape) for number in range(1, length + 1))


def plain_back_chain(prime, one, other):
    """The shapes of the n by 2 n tables, by all cut-outs."""
    product = plain_product(one, other)
    shapes = []
    for exponent in range(plain_shape(prime, other)[0] + 1):
        table = [[number * prime ** exponent for number in row] + list(more) for row, more in zip(one, product)]
        shapes.append(plain_shape(prime, table))
    return tuple(shapes)


def plain_adjugate(table):
    """The table whose product with this one has the determinant on its diagonal and noughts elsewhere."""
    size = len(table)
    if size == 1:
        return ((1,),)
    return tuple(
        tuple(
            (-1) ** (row + column) * plain_determinant(
                [line[:row] + line[row + 1:] for at, line in enumerate(table) if at != column]
            )
            for column in range(size)
        )
        for row in range(size)
    )


def plain_strand_shapes(prime, one, other):
    """The strand shapes from the back chain of the tables exchanged, as the document lets the two readings meet."""
    product = plain_product(one, other)
    total = plain_exponent(prime, plain_determinant(product))
    shapes = plain_back_chain(prime, plain_flipped(plain_adjugate(product)), plain_flipped(other))
    return tuple(tuple(total - part for part in shape[::-1]) for shape in shapes)


def small_couples():
    """Tables of all small fillings with their primes, the made ones and turned ones."""
    chance = random.Random(221)
    for before, _, after, counts in small_fillings(((1, 3), (2, 2), (3, 1), (4, 1))):
        for prime in PRIMES:
            one, other = made_tables(prime, Filling(before, after, counts))
            yield prime, one, other
            ahead, back = drawn_inverses(chance, len(before))
            first = drawn_invertible(chance, prime, len(before))
            last = drawn_invertible(chance, prime, len(before))
            yield prime, plain_product(first, plain_product(one, ahead)), plain_product(back, plain_product(other, last))


def drawn_couples(many):
    """Any two tables, which need not come from a filling."""
    chance = random.Random(222)
    for size in (1, 2, 3, 4):
        for prime in PRIMES:
            for _ in range(many if size < 4 else many // 3):
                yield prime, drawn_square(chance, prime, size), drawn_square(chance, prime, size)


class BackChainTest(PlainCase):
    def test_example(self):
        self.assertEqual(back_chain(2, ONE, OTHER), ((1, 0), (1, 1), (2, 1)))

    def test_against_all_cut_outs(self):
        for couples in (small_couples(), drawn_couples(6)):
            for prime, one, other in couples:
                chain = back_chain(prime, one, other)
                self.assert_tuples(chain)
                self.assertEqual(chain, plain_back_chain(prime, one, other))

    def test_ends(self):
        for prime, one, other in drawn_couples(12):
            chain = back_chain(prime, [list(row) for row in one], other)
            self.assertEqual(chain[0], plain_shape(prime, one))
            self.assertEqual(chain[-1], plain_shape(prime, plain_product(one, other)))
            self.assertEqual(len(chain), plain_shape(prime, other)[0] + 1)

    def test_no_letters(self):
        self.assertEqual(back_chain(3, ONE, OTHER), ((0, 0),))
        self.assertEqual(back_chain(2, ONE, ((1, 0), (0, 3))), ((1, 0),))
        self.assertEqual(back_chain(2, ((8,),), ((-1,),)), ((3,),))

    def test_hundred_strands(self):
        chance = random.Random(223)
        one = drawn_turned(chance, 5, [[5 ** 60, 0, 0, 0], [0, 5 ** 9, 0, 0], [0, 0, 5, 0], [0, 0, 0, 1]])
        other = drawn_turned(chance, 5, [[5 ** 100, 0, 0, 0], [0, 5 ** 90, 0, 0], [0, 0, 5 ** 70, 0], [0, 0, 0, 1]])
        chain = back_chain(5, one, other)
        self.assertEqual((len(chain), chain[0], chain[-1]), (101, (60, 9, 1, 0), plain_shape(5, plain_product(one, other))))
        shapes = strand_shapes(5, one, other)
        self.assertEqual((len(shapes), shapes[0], shapes[-1]), (101, chain[-1], chain[0]))
        self.assertEqual(strand_filling(5, one, other).content, (100, 90, 70, 0))


class BackFillingTest(PlainCase):
    def test_example(self):
        filling = back_filling(2, ONE, OTHER)
        self.assertTrue(filling == Filling((1, 0), (2, 1), ((1, 0), (1,))))

    def assert_back_filling(self, prime, one, other):
        chain = plain_back_chain(prime, one, other)
        first = chain[-1][0]
        if first > 24:
            self.assert_refused(TooLong, (), back_filling, prime, one, other)
            return
        long = max(first, 1)
        filling = back_filling(prime, one, other)
        turned = tuple(plain_turned_about(shape, long) for shape in chain)
        self.assertEqual(filling.chain[:len(chain)], turned)
        self.assertEqual(filling.chain[len(chain):], turned[-1:] * (long + 1 - len(chain)))
        self.assertEqual(filling.content, plain_turned_about(plain_shape(prime, other), long))

    def test_every_couple_of_tables_has_one(self):
        for couples in (small_couples(), drawn_couples(6)):
            for prime, one, other in couples:
                self.assert_back_filling(prime, one, other)

    def test_no_letters(self):
        self.assertTrue(back_filling(3, ONE, OTHER) == Filling((0,), (0,), ((0,),)))
        self.assertTrue(back_filling(2, ((1,),), ((1,),)) == Filling((0,), (0,), ((0,),)))
        self.assertTrue(back_filling(2, ONE, ((1, 0), (0, 3))) == Filling((1,), (1,), ((0,),)))
        self.assertTrue(back_filling(2, ((4, 0), (0, 2)), ((1, 0), (0, 1))) == Filling((2, 1), (2, 1), ((0, 0), (0,))))

    def test_twenty_four_and_above(self):
        filling = back_filling(2, ((2 ** 12,),), ((2 ** 12,),))
        self.assertEqual((filling.before, filling.after), ((1,) * 12 + (0,) * 12, (1,) * 24))
        self.assertEqual(filling.content, (1,) * 12 + (0,) * 12)
        still = back_filling(3, ((3 ** 24, 0), (0, 3)), ((1, 0), (0, 1)))
        self.assertEqual((still.before, still.content), ((2,) + (1,) * 23, (0,) * 24))
        self.assertEqual(back_filling(2, ((1,),), ((2 ** 24,),)).content, (1,) * 24)
        self.assert_refused(TooLong, (), back_filling, 2, ((2 ** 12,),), ((2 ** 13,),))
        self.assert_refused(TooLong, (), back_filling, 2, ((2 ** 25, 0), (0, 1)), ((1, 0), (0, 1)))
        self.assert_refused(TooLong, (), back_filling, 5, ((1,),), ((5 ** 100,),))


class StrandShapesTest(PlainCase):
    def test_example(self):
        self.assertEqual(strand_shapes(2, ONE, OTHER), ((2, 1), (1, 1), (1, 0)))

    def test_the_two_readings_meet(self):
        for couples in (small_couples(), drawn_couples(6)):
            for prime, one, other in couples:
                shapes = strand_shapes(prime, one, other)
                self.assert_tuples(shapes)
                self.assertEqual(shapes, plain_strand_shapes(prime, one, other))

    def test_any_turning_does(self):
        """The shapes by their definition, with other left tables and another modulus."""
        for at, (prime, one, other) in enumerate(drawn_couples(9)):
            turned = turn_table(prime, other, at % 3)
            back = inverse_modulo(prime, turned.left, turned.modulus)
            content = plain_shape(prime, other)
            wanted = []
            for less in range(content[0] + 1):
                numbers = [prime ** max(part - less, 0) for part in content]
                diagonal = [[number if row == column else 0 for column, number in enumerate(numbers)]
                            for row in range(len(numbers))]
                wanted.append(plain_shape(prime, plain_product(plain_product(one, back), diagonal)))
            self.assertEqual(strand_shapes(prime, one, other), tuple(wanted))

    def test_no_letters(self):
        self.assertEqual(strand_shapes(3, ONE, OTHER), ((0, 0),))
        self.assertEqual(strand_shapes(2, ((8,),), ((-1,),)), ((3,),))
        self.assertTrue(strand_filling(2, ((8,),), ((-1,),)) == Filling((3,), (3,), ((0,),)))


class StrandFillingTest(PlainCase):
    def test_it_is_the_mark_of_each_filling(self):
        for before, _, after, counts in small_fillings(((1, 4), (2, 3), (3, 2), (4, 1))):
            filling = Filling(before, after, counts)
            for prime in PRIMES:
                self.assertTrue(strand_filling(prime, *made_tables(prime, filling)) == filling)

    def test_every_couple_of_tables_has_one(self):
        for prime, one, other in drawn_couples(10):
            filling = strand_filling(prime, one, other)
            self.assertEqual(filling.before, plain_shape(prime, one))
            self.assertEqual(filling.content, plain_shape(prime, other))
            self.assertEqual(filling.after, plain_shape(prime, plain_product(one, other)))

    def test_great_shapes_are_let(self):
        self.assertEqual(strand_filling(2, ((2 ** 30,),), ((2 ** 30,),)).counts, ((30,),))

    def test_invertible_tables_change_nothing(self):
        chance = random.Random(224)
        for prime, one, other in drawn_couples(6):
            size = len(one)
            ahead, back = drawn_inverses(chance, size)
            first, last = drawn_invertible(chance, prime, size), drawn_invertible(chance, prime, size)
            changed = plain_product(first, plain_product(one, ahead))
            behind = plain_product(back, plain_product(other, last))
            self.assertTrue(strand_filling(prime, changed, behind) == strand_filling(prime, one, other))
            self.assertEqual(back_chain(prime, changed, behind), back_chain(prime, one, other))

    def test_times_the_prime(self):
        for prime, one, other in drawn_couples(6):
            filling = strand_filling(prime, one, other)
            more = strand_filling(prime, [[number * prime for number in row] for row in one], other)
            self.assertEqual(more.counts, filling.counts)
            self.assertEqual(more.before, tuple(part + 1 for part in filling.before))
            self.assertEqual(more.after, tuple(part + 1 for part in filling.after))
            more = strand_filling(prime, one, [[number * prime for number in row] for row in other])
            self.assertEqual(more.before, filling.before)
            self.assertEqual(more.counts, tuple((row[0] + 1,) + row[1:] for row in filling.counts))


class WrongArgumentsTest(PlainCase):
    def test_prime_then_one_then_other(self):
        for function in ALL:
            for prime in NO_PRIMES:
                self.assert_refused(BadPrime, (prime,), function, prime, None, None)
            for wrong, word in NO_SQUARES:
                self.assert_refused(BadTable, (word,), function, 2, wrong, None)
                self.assert_refused(BadTable, (word,), function, 2, wrong, ((0,),))
                self.assert_refused(BadTable, (word,), function, 2, ((0,),), wrong)

    def test_sizes_then_flat_ones(self):
        flat = ((1, 2), (2, 4))
        for function in ALL:
            self.assert_refused(UnlikeSizes, (), function, 2, flat, ((0,),))
            self.assert_refused(UnlikeSizes, (), function, 2, ((1,),), ((1, 0), (0, 1)))
            self.assert_refused(Flat, (), function, 2, flat, ONE)
            self.assert_refused(Flat, (), function, 2, ONE, flat)
            self.assert_refused(Flat, (), function, 2, ((0,),), ((2 ** 30,),))
            self.assert_refused(Flat, (), function, 2, ((2 ** 30,),), ((0,),))

    def test_what_is_passed_stays_as_it_was(self):
        one, other = [list(row) for row in ONE], [list(row) for row in OTHER]
        for function in ALL:
            self.assertEqual(function(2, one, other), function(2, one, other))
        self.assertEqual((one, other), ([[2, 0], [0, 1]], [[2, 1], [0, 2]]))


if __name__ == "__main__":
    unittest.main()
