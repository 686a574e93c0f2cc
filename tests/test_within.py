import inspect
import itertools
import random
import unittest

from tests.plain import NO_SEQUENCES, NO_WHOLE, PlainCase
from tests.plainrooms import (
    GREATEST_ROOMS, LARGE_ROOMS, MIDDLE_ROOMS, SMALL_ROOMS, is_closed, plain_closed, plain_kind, plain_members,
    plain_multiple, plain_rest_kind, plain_rooms_within,
)
from threeshapes.errors import BadMember, BadNumber, BadWithin
from threeshapes.rooms import Room
from threeshapes.within import (
    all_within, check_within, facing_within, joined_within, made_within, shared_within, times_within,
)

ROOM = Room(2, (2, 1))
HALF = ((0, 0), (2, 1))
FACING = ((0, 0), (1, 1), (2, 0), (3, 1))
NO_MEMBERS = NO_SEQUENCES + ((), (0,), (0, 0, 0), (4, 0), (0, 2), (-1, 0), (True, 0), (0, False), (1.0, 0), (None, 0))
NOT_ADDED = ((), [], [(2, 1)], [(0, 0), (1, 0)], [(0, 0), (2, 0), (2, 1)], [(1, 0), (2, 0), (3, 0)], [(0, 0), (1, 1), (3, 1)])


class CheckWithinTest(PlainCase):
    def test_all_sets_of_small_rooms(self):
        """Of all sets of members just the closed ones are let."""
        for prime, kind in SMALL_ROOMS:
            if prime ** sum(kind) <= 9:
                room = Room(prime, kind)
                for size in range(room.size + 1):
                    for members in itertools.combinations(room.members, size):
                        if is_closed(prime, kind, members):
                            self.assertEqual(check_within(room, members), members)
                        else:
                            self.assert_refused(BadWithin, ("added",), check_within, room, members)

    def test_any_order_and_doubles(self):
        chance = random.Random(241)
        for prime, kind in SMALL_ROOMS + GREATEST_ROOMS:
            room = Room(prime, kind)
            for within in plain_rooms_within(prime, kind)[::7]:
                members = [list(member) for member in within * 2]
                chance.shuffle(members)
                self.assertEqual(check_within(room, members), within)
                self.assert_tuples(check_within(room, members))
                if len(within) > prime and len(within) < room.size:
                    self.assert_refused(BadWithin, ("added",), check_within, room, within[1:])
                    self.assert_refused(BadWithin, ("added",), check_within, room, within[:-1])

    def test_wrong_ones(self):
        functions = (
            check_within, facing_within, lambda room, thing: joined_within(room, thing, None),
            lambda room, thing: joined_within(room, HALF, thing), lambda room, thing: shared_within(room, thing, None),
            lambda room, thing: shared_within(room, HALF, thing), lambda room, thing: times_within(room, 2, thing),
        )
        for function in functions:
            for wrong in NO_SEQUENCES:
                self.assert_refused(BadWithin, ("member",), function, ROOM, wrong)
            for wrong in NO_MEMBERS:
                # A wrong member comes ahead of a missing sum, wherever it stands.
                self.assert_refused(BadWithin, ("member",), function, ROOM, [(0, 0), (1, 0), wrong])
                self.assert_refused(BadWithin, ("member",), function, ROOM, (wrong, (1, 0)))
            for wrong in NOT_ADDED:
                self.assert_refused(BadWithin, ("added",), function, ROOM, wrong)
        self.assert_refused(BadWithin, ("member",), check_within, ROOM, ROOM)
        self.assert_refused(BadWithin, ("added",), check_within, Room(2, ()), ())
        self.assertEqual(check_within(Room(2, ()), [[]]), ((),))

    def test_numbers_come_first(self):
        for number in NO_WHOLE:
            self.assert_refused(BadNumber, (), times_within, ROOM, number, HALF)
            self.assert_refused(BadNumber, (), times_within, ROOM, number, None)
            self.assert_refused(BadNumber, (), times_within, ROOM, number, ())


class MadeWithinTest(PlainCase):
    def test_example(self):
        self.assertEqual(made_within(ROOM, [(2, 1)]), HALF)
        self.assertEqual(made_within(ROOM, ((1, 1),)), FACING)

    def test_against_a_plain_closure(self):
        chance = random.Random(242)
        for prime, kind in SMALL_ROOMS + MIDDLE_ROOMS + LARGE_ROOMS + GREATEST_ROOMS:
            room = Room(prime, kind)
            for many in (0, 1, 1, 2, 2, 3, 4):
                members = [list(chance.choice(room.members)) for _ in range(many)]
                found = made_within(room, members)
                self.assertEqual(found, plain_closed(prime, kind, [tuple(member) for member in members]))
                self.assertTrue(is_closed(prime, kind, found))
                self.assert_tuples(found)
            self.assertEqual(made_within(room, room.members), room.members)

    def test_no_members(self):
        for nothing in ((), []):
            self.assertEqual(made_within(ROOM, nothing), ((0, 0),))
            self.assertEqual(made_within(Room(3, ()), nothing), ((),))

    def test_wrong_members(self):
        for wrong in NO_SEQUENCES:
            self.assert_refused(BadMember, (), made_within, ROOM, wrong)
        for wrong in NO_MEMBERS:
            self.assert_refused(BadMember, (), made_within, ROOM, [(1, 1), wrong])


class OfTwoTest(PlainCase):
    def test_joined_and_shared(self):
        for prime, kind in SMALL_ROOMS + ((3, (2, 1)), (2, (3, 2))):
            room = Room(prime, kind)
            rooms = plain_rooms_within(prime, kind)
            for one in rooms:
                for other in rooms:
                    joined = joined_within(room, one, other)
                    shared = shared_within(room, one, other)
                    self.assertEqual(joined, plain_closed(prime, kind, one + other))
                    self.assertEqual(shared, tuple(sorted(set(one) & set(other))))
                    self.assertEqual(len(joined) * len(shared), len(one) * len(other))

    def test_in_great_rooms(self):
        chance = random.Random(243)
        for prime, kind in GREATEST_ROOMS + LARGE_ROOMS:
            room = Room(prime, kind)
            rooms = plain_rooms_within(prime, kind)
            for _ in range(20):
                one, other = chance.choice(rooms), chance.choice(rooms)
                joined = joined_within(room, [list(member) for member in one[::-1]], other)
                shared = shared_within(room, one, [list(member) for member in other[::-1]])
                self.assertEqual(joined, plain_closed(prime, kind, one + other))
                self.assertEqual(shared, tuple(sorted(set(one) & set(other))))
                self.assert_tuples((joined, shared))

    def test_times(self):
        for prime, kind in SMALL_ROOMS + MIDDLE_ROOMS + GREATEST_ROOMS:
            room = Room(prime, kind)
            for within in plain_rooms_within(prime, kind)[::3]:
                for number in (-prime, -1, 0, 1, 2, 3, 5, 6, prime ** 2, 10 ** 30):
                    wanted = tuple(sorted({plain_multiple(prime, kind, number, member) for member in within}))
                    found = times_within(room, number, [list(member) for member in within])
                    self.assertEqual(found, wanted)
                    self.assert_tuples(found)
        self.assertEqual(times_within(ROOM, 2, ROOM.members), ((0, 0), (2, 0)))


class FacingWithinTest(PlainCase):
    def plain_facing(self, prime, kind, within):
        if kind == ():
            return within
        return tuple(
            y for y in plain_members(prime, kind)
            if all(
                sum(a * b * prime ** (kind[0] - part) for a, b, part in zip(x, y, kind)) % prime ** kind[0] == 0
                for x in within
            )
        )

    def test_example(self):
        self.assertEqual(facing_within(ROOM, HALF), FACING)
        self.assertEqual(facing_within(ROOM, FACING), HALF)
        self.assertEqual(facing_within(Room(2, ()), ((),)), ((),))

    def test_all_rooms_within(self):
        for prime, kind in SMALL_ROOMS + MIDDLE_ROOMS:
            room = Room(prime, kind)
            for within in plain_rooms_within(prime, kind):
                facing = facing_within(room, [list(member) for member in within])
                self.assertEqual(facing, self.plain_facing(prime, kind, within))
                self.assert_tuples(facing)
                self.assertEqual(facing_within(room, facing), within)
                self.assertEqual(plain_kind(prime, kind, facing), plain_rest_kind(prime, kind, within))
                self.assertEqual(plain_rest_kind(prime, kind, facing), plain_kind(prime, kind, within))

    def test_great_rooms(self):
        for prime, kind in GREATEST_ROOMS + LARGE_ROOMS:
            room = Room(prime, kind)
            for within in plain_rooms_within(prime, kind)[::11]:
                facing = facing_within(room, within)
                self.assertEqual(facing, self.plain_facing(prime, kind, within))
                self.assertEqual(facing_within(room, facing), within)

    def test_it_exchanges_joined_and_shared(self):
        for prime, kind in SMALL_ROOMS:
            room = Room(prime, kind)
            rooms = plain_rooms_within(prime, kind)
            facing = {within: facing_within(room, within) for within in rooms}
            for one in rooms[::2]:
                for other in rooms:
                    joined = joined_within(room, facing[one], facing[other])
                    self.assertEqual(facing[shared_within(room, one, other)], joined)
                    if set(one) <= set(other):
                        self.assertLessEqual(set(facing[other]), set(facing[one]))


class AllWithinTest(PlainCase):
    def test_all_closed_sets_of_small_rooms(self):
        for prime, kind in SMALL_ROOMS:
            if prime ** sum(kind) <= 16:
                room = Room(prime, kind)
                nought = (0,) * len(kind)
                others = [member for member in room.members if member != nought]
                wanted = []
                for size in range(room.size + 1):
                    if room.size % (size + 1) == 0:
                        for members in itertools.combinations(others, size):
                            if is_closed(prime, kind, (nought,) + members):
                                wanted.append((nought,) + members)
                self.assertEqual(list(all_within(room)), wanted)

    def test_greater_rooms(self):
        for prime, kind in SMALL_ROOMS + MIDDLE_ROOMS + LARGE_ROOMS + GREATEST_ROOMS:
            found = list(all_within(Room(prime, kind)))
            self.assertEqual(found, plain_rooms_within(prime, kind))
            self.assert_tuples(tuple(found))

    def test_known_numbers(self):
        for prime, kind, number in ((2, (1, 1, 1, 1), 67), (3, (1, 1, 1, 1), 212), (2, (2, 1), 8), (5, (1, 1), 8), (2, (), 1)):
            self.assertEqual(len(list(all_within(Room(prime, kind)))), number)

    def test_it_is_a_generator(self):
        self.assertTrue(inspect.isgenerator(all_within(ROOM)))
        self.assertEqual(list(all_within(ROOM)), list(all_within(ROOM)))
        self.assertTrue(ROOM == Room(2, (2, 1)))


class UnchangedTest(PlainCase):
    def test_what_is_passed_stays_as_it_was(self):
        one, other = [[2, 1], [0, 0]], [[3, 1], [1, 1], [0, 0], [2, 0]]
        for _ in range(2):
            self.assertEqual(check_within(ROOM, one), HALF)
            self.assertEqual(made_within(ROOM, other), FACING)
            self.assertEqual(joined_within(ROOM, one, other), ROOM.members)
            self.assertEqual(shared_within(ROOM, one, other), ((0, 0),))
            self.assertEqual(times_within(ROOM, 2, other), ((0, 0), (2, 0)))
            self.assertEqual(facing_within(ROOM, one), FACING)
        self.assertEqual((one, other), ([[2, 1], [0, 0]], [[3, 1], [1, 1], [0, 0], [2, 0]]))


if __name__ == "__main__":
    unittest.main()
