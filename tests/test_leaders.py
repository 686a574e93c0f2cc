import itertools
import random
import unittest

from tests.plain import (
    BIG, NO_PRIMES, NO_SEQUENCES, NO_SQUARES, PlainCase, drawn_square, plain_determinant, plain_exponent, plain_least,
    plain_product, plain_shape,
)
from tests.plainrooms import plain_closed, plain_kind, plain_members, plain_rest_kind
from threeshapes.errors import BadPrime, BadTable, Flat, TooLarge, UnlikeSizes
from threeshapes.leaders import Leader, ProductRoom, led_member, leader_fault, leader_of_table, within_of_product
from threeshapes.rooms import Room

PRIMES = (2, 3, 5)
FLAT = ((1, 2, 3), (2, 4, 6))
NO_LONGS = tuple((thing, word) for thing, word in NO_SQUARES if word != "square") + (
    (((1,), (2,)), "long"), (((1, 2), (3, 4), (5, 6)), "long"), (((1,) * 8,) * 5, "long"), (((0,), (0,)), "long"),
)
TABLE = ((4, 0, 0), (1, 2, 6))


def plain_kind_of(prime, table):
    return tuple(part for part in plain_shape(prime, table) if part)


def is_let(prime, kind):
    return prime ** sum(kind) <= 81


def plain_led(prime, kind, rows, column):
    return tuple(sum(x * y for x, y in zip(row, column)) % prime ** part for row, part in zip(rows, kind))


def is_multiple(prime, table, column):
    """Whether some number not divided by the prime times the column is a sum of multiples of the table's columns.

    That is so just if the column behind the table makes no least exponent less.
    """
    longer = [list(row) + [number] for row, number in zip(table, column)]
    return plain_least(prime, longer, len(table)) == plain_least(prime, table, len(table))


def small_tables():
    """Tables of one and two rows with small numbers, and drawn ones with more, with their primes; none is flat."""
    for prime in PRIMES:
        for number in (1, -1, 2, 3, 4, 6, -8, 9, 5, 25, 64, 27, 81):
            yield prime, ((number,),)
            yield prime, ((0, number, 3 * number),)
        for numbers in itertools.product((-2, 0, 1, 3), repeat=4):
            table = (numbers[:2], numbers[2:])
            if plain_determinant(table):
                yield prime, table
    chance = random.Random(261)
    for rows, columns in ((1, 3), (2, 2), (2, 3), (2, 5), (3, 3), (3, 4), (4, 4), (4, 5)):
        for prime in PRIMES:
            for _ in range(8 if rows < 4 else 2):
                table = tuple(tuple(chance.choice((0, 1, 2, -3, 4, prime, 5 * prime)) for _ in range(columns)) for _ in range(rows))
                if plain_least(prime, table, rows) is not None:
                    yield prime, table


class LeaderOfTableTest(PlainCase):
    def test_kind_numbers_and_members(self):
        chance = random.Random(262)
        for prime, table in small_tables():
            kind = plain_kind_of(prime, table)
            if not is_let(prime, kind):
                self.assert_refused(TooLarge, (81,), leader_of_table, prime, table)
                continue
            leader = leader_of_table(prime, [list(row) for row in table])
            self.assertIs(leader.__class__, Leader)
            self.assertTrue(leader.room == Room(prime, kind))
            self.assert_tuples(leader.rows)
            self.assertEqual([len(row) for row in leader.rows], [len(table)] * len(kind))
            for row, part in zip(leader.rows, kind):
                self.assertTrue(all(0 <= number < prime ** part for number in row))
            self.assertIsNone(leader_fault(prime, table, leader))
            for column in zip(*table):
                self.assertFalse(any(led_member(leader, column)))
            ones = [tuple(int(row == at) for row in range(len(table))) for at in range(len(table))]
            led = [led_member(leader, one) for one in ones]
            self.assertEqual(plain_closed(prime, kind, led), tuple(plain_members(prime, kind)))
            for _ in range(6):
                column = [chance.randint(-9, 9) for _ in table]
                self.assertEqual(not any(led_member(leader, column)), is_multiple(prime, table, column))

    def test_some_column_is_led_to_each_member(self):
        for prime, table in ((2, TABLE), (3, ((9, 0), (0, 3))), (2, ((2, 0, 1), (0, 2, 1), (0, 0, 8)))):
            leader = leader_of_table(prime, table)
            modulus = prime ** leader.room.kind[0]
            columns = itertools.product(range(modulus), repeat=len(table))
            self.assertEqual(sorted({led_member(leader, column) for column in columns}), list(leader.room))

    def test_no_parts(self):
        leader = leader_of_table(2, ((1, 0), (5, 3)))
        self.assertTrue(leader.room == Room(2, ()))
        self.assertEqual((leader.rows, led_member(leader, (7, -2))), ((), ()))

    def test_great_numbers(self):
        for prime in PRIMES:
            table = ((BIG * 7 * prime, BIG), (BIG - 1, 3 * prime))
            kind = plain_kind_of(prime, table)
            if is_let(prime, kind):
                self.assertIsNone(leader_fault(prime, table, leader_of_table(prime, table)))

    def test_wrong_arguments_in_their_order(self):
        for function in (leader_of_table, lambda prime, table: leader_fault(prime, table, Leader(None, None))):
            for prime in NO_PRIMES:
                self.assert_refused(BadPrime, (prime,), function, prime, None)
            for wrong, word in NO_LONGS:
                self.assert_refused(BadTable, (word,), function, 2, wrong)
            for flat in (FLAT, ((0,),), ((0, 0),), ((1, 2), (2, 4))):
                self.assert_refused(Flat, (), function, 2, flat)
        for prime, table in ((2, ((128,),)), (3, ((243,),)), (5, ((125,),)), (2, ((8, 0), (0, 16))), (3, ((0, 3 ** 200),))):
            self.assert_refused(TooLarge, (81,), leader_of_table, prime, table)
        for prime, table in ((2, ((64,),)), (3, ((81,),)), (5, ((25,),)), (2, ((8, 0), (0, 8)))):
            self.assertEqual(leader_of_table(prime, table).room.size, prime ** sum(plain_shape(prime, table)))

    def test_what_is_passed_stays_as_it_was(self):
        table = [list(row) for row in TABLE]
        leader = leader_of_table(2, table)
        self.assertEqual(leader.rows, leader_of_table(2, table).rows)
        self.assertIsNone(leader_fault(2, table, leader))
        self.assertEqual(table, [list(row) for row in TABLE])


class LedMemberTest(PlainCase):
    def test_sums_of_products(self):
        chance = random.Random(263)
        for prime, kind in ((2, (2, 1)), (3, (1, 1)), (2, (3,)), (5, ()), (2, (1, 1, 1, 1))):
            for long in (1, 2, 4):
                rows = tuple(tuple(chance.randrange(prime ** part) for _ in range(long)) for part in kind)
                leader = Leader(Room(prime, kind), rows)
                self.assertEqual(leader.rows, rows)
                for _ in range(10):
                    column = [chance.choice((chance.randint(-9, 9), BIG, -BIG)) for _ in range(long)]
                    wanted = plain_led(prime, kind, rows, column)
                    self.assertEqual(led_member(leader, column), wanted)
                    self.assertEqual(led_member(leader, tuple(column)), wanted)
                    self.assert_tuples(led_member(leader, column))

    def test_results_keep_what_they_are_given(self):
        leader = Leader(None, [7])
        self.assertEqual((leader.room, leader.rows), (None, [7]))
        self.assertFalse(leader == Leader(None, [7]))
        product = ProductRoom(leader=leader, within=3)
        self.assertIs(product.leader, leader)
        self.assertEqual(product.within, 3)


class LeaderFaultTest(PlainCase):
    def setUp(self):
        self.room = Room(2, (2, 1))
        self.table = ((4, 0, 4), (0, 2, 6))

    def fault(self, rows, room=None):
        return leader_fault(2, self.table, Leader(room or self.room, rows))

    def test_no_fault(self):
        self.assertIsNone(self.fault(((1, 0), (0, 1))))
        self.assertIsNone(self.fault([[3, 2], [1, 1]]))
        self.assertIsNone(leader_fault(3, ((1, 0), (0, 5)), Leader(Room(3, ()), [])))

    def test_room(self):
        for room in (Room(3, (2, 1)), Room(2, (3,)), Room(2, (1, 1)), Room(2, ()), Room(2, (2, 1, 1))):
            self.assertEqual(self.fault(None, room), "room")
        self.assertEqual(leader_fault(2, self.table, Leader(None, ((1, 0), (0, 1)))), "room")
        # There is no room of so many members.
        self.assertEqual(leader_fault(2, ((128,),), Leader(Room(2, (6,)), ((1,),))), "room")

    def test_rows(self):
        for wrong in NO_SEQUENCES + (
            (), ((1, 0),), ((1, 0), (0, 1), (0, 0)), ((1,), (0,)), ((1, 0, 0), (0, 1, 0)), ((4, 0), (0, 1)), ((1, 0), (0, 2)),
            ((-1, 0), (0, 1)), ((True, 0), (0, 1)), ((1.0, 0), (0, 1)), ((1, 0), None), ((1, 0), "01"), ((1, None), (0, 1)),
        ):
            self.assertEqual(self.fault(wrong), "rows")
        self.assertEqual(leader_fault(3, ((1,),), Leader(Room(3, ()), ((0,),))), "rows")

    def test_column(self):
        self.assertEqual(self.fault(((1, 1), (0, 1))), "column")
        self.assertEqual(self.fault(((0, 1), (0, 0))), "column")

    def test_missed(self):
        for rows in (((0, 0), (0, 0)), ((2, 0), (0, 1)), ((1, 0), (0, 0)), ((1, 0), (1, 0)), ((1, 2), (1, 0))):
            self.assertEqual(self.fault(rows), "missed")

    def test_over_all_rows(self):
        """Of all rows of numbers just those are right that the words ask for."""
        for prime, table in ((2, ((2, 0), (0, 2))), (2, ((4, 2),)), (3, ((3, 1), (0, 3))), (2, ((4, 0), (0, 2)))):
            kind = plain_kind_of(prime, table)
            ranges = [range(prime ** part) for part in kind for _ in table]
            right = 0
            for numbers in itertools.product(*ranges):
                rows = [numbers[at * len(table):(at + 1) * len(table)] for at in range(len(kind))]
                wanted = None
                if any(any(plain_led(prime, kind, rows, column)) for column in zip(*table)):
                    wanted = "column"
                else:
                    led = [tuple(row[at] for row in rows) for at in range(len(table))]
                    if len(plain_closed(prime, kind, led)) < prime ** sum(kind):
                        wanted = "missed"
                right += wanted is None
                self.assertEqual(leader_fault(prime, table, Leader(Room(prime, kind), rows)), wanted)
            self.assertGreater(right, 0)


class WithinOfProductTest(PlainCase):
    def couples(self):
        chance = random.Random(264)
        for rows, columns in ((1, 1), (1, 3), (2, 2), (2, 3), (3, 3), (3, 5), (4, 4)):
            for prime in PRIMES:
                for _ in range(14 if rows < 4 else 6):
                    one = drawn_square(chance, prime, rows, 3)
                    other = tuple(
                        tuple(chance.choice((0, 1, 2, -3, prime)) for _ in range(columns)) for _ in range(rows)
                    )
                    if plain_least(prime, other, rows) is not None:
                        yield prime, one, other

    def test_kind_and_rest_kind(self):
        asked = 0
        for prime, one, other in self.couples():
            product = plain_product(one, other)
            kind = plain_kind_of(prime, product)
            if not is_let(prime, kind):
                self.assert_refused(TooLarge, (81,), within_of_product, prime, one, other)
                continue
            asked += 1
            found = within_of_product(prime, one, [list(row) for row in other])
            self.assertIs(found.__class__, ProductRoom)
            self.assertIsNone(leader_fault(prime, product, found.leader))
            led = [plain_led(prime, kind, found.leader.rows, column) for column in zip(*one)]
            self.assertEqual(found.within, plain_closed(prime, kind, led))
            self.assert_tuples(found.within)
            self.assertEqual(plain_kind(prime, kind, found.within), plain_kind_of(prime, other))
            self.assertEqual(plain_rest_kind(prime, kind, found.within), plain_kind_of(prime, one))
        self.assertGreater(asked, 100)

    def test_wrong_arguments_in_their_order(self):
        for prime in NO_PRIMES:
            self.assert_refused(BadPrime, (prime,), within_of_product, prime, None, None)
        for wrong, word in NO_SQUARES:
            self.assert_refused(BadTable, (word,), within_of_product, 2, wrong, None)
        for wrong, word in NO_LONGS:
            self.assert_refused(BadTable, (word,), within_of_product, 2, ((0,),), wrong)
        self.assert_refused(UnlikeSizes, (), within_of_product, 2, ((0,),), FLAT)
        self.assert_refused(UnlikeSizes, (), within_of_product, 2, ((1, 0), (0, 1)), ((128, 0),))
        for one, other in ((((1, 0), (0, 1)), FLAT), (((0, 0), (0, 0)), ((128, 0), (0, 1))), (((1, 2), (2, 4)), ((1, 0), (0, 1)))):
            self.assert_refused(Flat, (), within_of_product, 2, one, other)
        self.assert_refused(TooLarge, (81,), within_of_product, 2, ((8,),), ((16,),))
        self.assert_refused(TooLarge, (81,), within_of_product, 3, ((1, 0), (0, 9)), ((27, 0, 0), (0, 1, 0)))
        self.assertEqual(within_of_product(2, ((8,),), ((8,),)).within, tuple((8 * at,) for at in range(8)))

    def test_what_is_passed_stays_as_it_was(self):
        one, other = [[2, 0], [0, 1]], [[2, 1, 0], [0, 2, 0]]
        first = within_of_product(2, one, other)
        second = within_of_product(2, one, other)
        self.assertEqual((first.leader.rows, first.within), (second.leader.rows, second.within))
        self.assertEqual((one, other), ([[2, 0], [0, 1]], [[2, 1, 0], [0, 2, 0]]))
        self.assertEqual(plain_exponent(2, first.leader.room.size), 3)


if __name__ == "__main__":
    unittest.main()
