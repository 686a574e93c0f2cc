import unittest

from tests.plain import NO_SEQUENCES, PlainCase, plain_product, plain_shape
from tests.plainrooms import (
    GREATEST_ROOMS, LARGE_ROOMS, MIDDLE_ROOMS, SMALL_ROOMS, plain_closed, plain_kind, plain_rest_kind, plain_rooms_within,
)
from threeshapes.errors import BadWithin
from threeshapes.rooms import Room
from threeshapes.splitting import tables_of_within

ROOM = Room(2, (2, 1))
HALF = ((0, 0), (2, 1))


def is_power(prime, number):
    while number > 1 and number % prime == 0:
        number //= prime
    return number == 1


class SplittingTest(PlainCase):
    def assert_tables(self, prime, kind, within, couple):
        """The properties that the document asks for; only one couple has them."""
        one, other = couple
        size = max(len(kind), 1)
        self.assert_tuples(couple)
        for table in couple:
            self.assertEqual([len(row) for row in table], [size] * size)
        powers = [prime ** part for part in kind] or [1]
        diagonal = tuple(tuple(power if row == column else 0 for column in range(size)) for row, power in enumerate(powers))
        self.assertEqual(plain_product(one, other), diagonal)
        for row in range(size):
            self.assertFalse(any(one[row][row + 1:]))
            self.assertTrue(is_power(prime, one[row][row]))
            self.assertTrue(all(0 <= number < one[row][row] for number in one[row][:row]))
        if kind:
            columns = [tuple(number % power for number, power in zip(column, powers)) for column in zip(*one)]
            self.assertEqual(plain_closed(prime, kind, columns), within)

    def test_example(self):
        self.assertEqual(tables_of_within(ROOM, HALF), (((2, 0), (1, 2)), ((2, 0), (-1, 1))))

    def test_all_rooms_within(self):
        for prime, kind in SMALL_ROOMS + MIDDLE_ROOMS + LARGE_ROOMS + GREATEST_ROOMS:
            room = Room(prime, kind)
            seen = set()
            for within in plain_rooms_within(prime, kind):
                couple = tables_of_within(room, within)
                self.assert_tables(prime, kind, within, couple)
                seen.add(couple)
            self.assertEqual(len(seen), len(plain_rooms_within(prime, kind)))

    def test_shapes(self):
        for prime, kind in SMALL_ROOMS + MIDDLE_ROOMS:
            room = Room(prime, kind)
            size = max(len(kind), 1)
            for within in plain_rooms_within(prime, kind):
                one, other = tables_of_within(room, within)
                rest, own = plain_rest_kind(prime, kind, within), plain_kind(prime, kind, within)
                self.assertEqual(plain_shape(prime, one), rest + (0,) * (size - len(rest)))
                self.assertEqual(plain_shape(prime, other), own + (0,) * (size - len(own)))

    def test_nought_and_the_whole_room(self):
        self.assertEqual(tables_of_within(Room(5, ()), [()]), (((1,),), ((1,),)))
        self.assertEqual(tables_of_within(ROOM, [(0, 0)]), (((4, 0), (0, 2)), ((1, 0), (0, 1))))
        self.assertEqual(tables_of_within(ROOM, ROOM.members), (((1, 0), (0, 1)), ((4, 0), (0, 2))))

    def test_any_order_and_doubles(self):
        within = [[2, 1], [0, 0], [2, 1]]
        self.assertEqual(tables_of_within(ROOM, within), tables_of_within(ROOM, HALF))
        self.assertEqual(within, [[2, 1], [0, 0], [2, 1]])

    def test_wrong_ones(self):
        for wrong in NO_SEQUENCES + ([(0, 0), (1, 0), (0, 2)], [(True, 0)], [(0,)]):
            self.assert_refused(BadWithin, ("member",), tables_of_within, ROOM, wrong)
        for wrong in ((), [(2, 1)], [(0, 0), (1, 0)]):
            self.assert_refused(BadWithin, ("added",), tables_of_within, ROOM, wrong)


if __name__ == "__main__":
    unittest.main()
