import unittest

from tests.plain import BIG, NO_KINDS, NO_PRIMES, NO_SEQUENCES, NO_WHOLE, PlainCase
from tests.plainrooms import (
    GREATEST_ROOMS, LARGE_ROOMS, MIDDLE_ROOMS, SMALL_ROOMS, plain_added, plain_killed, plain_members, plain_multiple,
)
from threeshapes.errors import BadExponent, BadKind, BadMember, BadNumber, BadPrime, TooLarge
from threeshapes.rooms import Room, added_member, check_member, killed_by, killing_exponent, times_member

ROOM = Room(2, (2, 1))
NO_MEMBERS = NO_SEQUENCES + (
    (), (0,), (0, 0, 0), (4, 0), (0, 2), (-1, 0), (0, -1), (True, 0), (0, False), (1.0, 0), (None, 0), ("1", "0"), (BIG, 0),
)
ALL_ROOMS = SMALL_ROOMS + MIDDLE_ROOMS + LARGE_ROOMS + GREATEST_ROOMS


class RoomTest(PlainCase):
    def test_attributes(self):
        for prime, kind in ALL_ROOMS:
            room = Room(prime, kind)
            members = plain_members(prime, kind)
            self.assertEqual((room.prime, room.kind, room.size), (prime, kind, len(members)))
            self.assertEqual(room.members, tuple(members))
            self.assertEqual(members, sorted(members))
            self.assert_tuples((room.kind, room.size, room.members))

    def test_iteration(self):
        for prime, kind in SMALL_ROOMS:
            room = Room(prime, list(kind))
            self.assertEqual(tuple(room), room.members)
            self.assertEqual([member for member in room], plain_members(prime, kind))
        self.assertEqual(list(Room(2, (1, 1))), [(0, 0), (0, 1), (1, 0), (1, 1)])

    def test_the_room_of_no_parts(self):
        for prime in (2, 3, 5):
            room = Room(prime, [])
            self.assertEqual((room.kind, room.size, room.members), ((), 1, ((),)))

    def test_equality(self):
        self.assertTrue(ROOM == Room(2, [2, 1]))
        self.assertFalse(ROOM != Room(2, (2, 1)))
        for other in (Room(3, (2, 1)), Room(2, (2,)), Room(2, (2, 1, 1)), Room(2, ()), None, ROOM.members, (2, (2, 1)), 0):
            self.assertFalse(ROOM == other)
            self.assertTrue(ROOM != other)
        self.assertFalse(Room(2, ()) == Room(3, ()))

    def test_size_at_eighty_one_and_above(self):
        for prime, kind in GREATEST_ROOMS + ((3, (4,)), (3, (2, 2)), (2, (6,)), (2, (3, 1, 1, 1)), (5, (2,)), (5, (1, 1))):
            self.assertLessEqual(Room(prime, kind).size, 81)
        for prime, kind in ((3, (5,)), (3, (2, 1, 1, 1)), (2, (7,)), (2, (4, 1, 1, 1)), (5, (3,)), (5, (1, 1, 1)), (3, (3, 2)),
                            (2, (2, 2, 2, 1)), (5, (6,)), (3, (6,))):
            self.assert_refused(TooLarge, (81,), Room, prime, kind)

    def test_parts_of_any_size(self):
        for kind in ((BIG,), (BIG, BIG, BIG, BIG), (10 ** 18, 1), (BIG, 1, 1)):
            for prime in (2, 3, 5):
                self.assert_refused(TooLarge, (81,), Room, prime, kind)

    def test_wrong_arguments_in_their_order(self):
        for prime in NO_PRIMES:
            self.assert_refused(BadPrime, (prime,), Room, prime, None)
        for wrong, word in NO_KINDS:
            self.assert_refused(BadKind, (word,), Room, 2, wrong)
        self.assert_refused(BadKind, ("many",), Room, 2, (1,) * 5)
        self.assert_refused(BadKind, ("many",), Room, 2, (BIG, 0, True, 1, 1))
        self.assert_refused(BadKind, ("number",), Room, 2, (BIG, 0))
        self.assert_refused(BadKind, ("falling",), Room, 2, (1, BIG))

    def test_what_is_passed_is_not_kept(self):
        kind = [2, 1]
        room = Room(2, kind)
        kind[0] = 5
        self.assertEqual(room.kind, (2, 1))


class MemberTest(PlainCase):
    def test_check(self):
        for prime, kind in ALL_ROOMS:
            room = Room(prime, kind)
            for member in room:
                self.assertEqual(check_member(room, list(member)), member)
                self.assert_tuples(check_member(room, list(member)))
        for wrong in NO_MEMBERS:
            self.assert_refused(BadMember, (), check_member, ROOM, wrong)
        self.assert_refused(BadMember, (), check_member, Room(2, ()), (0,))
        self.assertEqual(check_member(Room(2, ()), []), ())

    def test_sums(self):
        for prime, kind in SMALL_ROOMS + MIDDLE_ROOMS:
            room = Room(prime, kind)
            for one in room:
                for other in room:
                    self.assertEqual(added_member(room, one, list(other)), plain_added(prime, kind, one, other))
        self.assertEqual(added_member(ROOM, (3, 1), [2, 1]), (1, 0))
        self.assert_tuples(added_member(ROOM, [3, 1], [2, 1]))

    def test_times(self):
        for prime, kind in ALL_ROOMS:
            room = Room(prime, kind)
            for member in room:
                for number in (-BIG, -7, -1, 0, 1, 2, 3, 8, BIG):
                    self.assertEqual(times_member(room, number, list(member)), plain_multiple(prime, kind, number, member))
        self.assertEqual(times_member(ROOM, -1, (1, 1)), (3, 1))
        self.assert_tuples(times_member(ROOM, 3, [1, 1]))

    def test_killing_exponent(self):
        for prime, kind in ALL_ROOMS:
            room = Room(prime, kind)
            for member in room:
                exponent = killing_exponent(room, list(member))
                wanted = min(e for e in range(8) if not any(plain_multiple(prime, kind, prime ** e, member)))
                self.assertEqual(exponent, wanted)
        self.assertEqual(killing_exponent(Room(5, ()), ()), 0)

    def test_killed_by(self):
        for prime, kind in ALL_ROOMS:
            room = Room(prime, kind)
            for exponent in range(8):
                self.assertEqual(killed_by(room, exponent), plain_killed(prime, kind, exponent))
            self.assertEqual(killed_by(room, BIG), room.size)

    def test_wrong_members(self):
        for wrong in NO_MEMBERS:
            self.assert_refused(BadMember, (), added_member, ROOM, wrong, (0, 0))
            self.assert_refused(BadMember, (), added_member, ROOM, (0, 0), wrong)
            self.assert_refused(BadMember, (), times_member, ROOM, 2, wrong)
            self.assert_refused(BadMember, (), killing_exponent, ROOM, wrong)

    def test_wrong_numbers_come_first(self):
        for number in NO_WHOLE:
            self.assert_refused(BadNumber, (), times_member, ROOM, number, (1, 1))
            self.assert_refused(BadNumber, (), times_member, ROOM, number, None)
        for exponent in NO_WHOLE + (-1, -BIG):
            self.assert_refused(BadExponent, (), killed_by, ROOM, exponent)

    def test_what_is_passed_stays_as_it_was(self):
        one, other = [3, 1], [2, 1]
        for _ in range(2):
            self.assertEqual(added_member(ROOM, one, other), (1, 0))
            self.assertEqual(times_member(ROOM, 2, one), (2, 0))
        self.assertEqual((one, other), ([3, 1], [2, 1]))
        self.assertTrue(ROOM == Room(2, (2, 1)))


if __name__ == "__main__":
    unittest.main()
