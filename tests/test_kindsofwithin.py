import itertools
import random
import unittest

from tests.plain import BIG, NO_KINDS, NO_SEQUENCES, PlainCase
from tests.plainrooms import (
    GREATEST_ROOMS, LARGE_ROOMS, MIDDLE_ROOMS, SMALL_ROOMS, plain_kind, plain_kinds, plain_members, plain_multiple,
    plain_rest_kind, plain_rooms_within,
)
from threeshapes.errors import BadKind, BadWithin, NoWithin
from threeshapes.fillings import filling_of_chain
from threeshapes.kindsofwithin import (
    basis_fault, basis_of_within, chain_of_within, find_within, kind_of_within, rest_kind,
)
from threeshapes.listing import is_product
from threeshapes.rooms import Room

ROOM = Room(2, (2, 1))
HALF = ((0, 0), (2, 1))
FACING = ((0, 0), (1, 1), (2, 0), (3, 1))
NO_WITHINS = tuple((wrong, "member") for wrong in NO_SEQUENCES) + (
    ([(0, 0), (1, 0), (0, 2)], "member"), ([(True, 0)], "member"), ([(0,)], "member"), ((), "added"), ([(2, 1)], "added"),
    ([(0, 0), (1, 0)], "added"),
)
ALL = (kind_of_within, rest_kind, chain_of_within, basis_of_within, lambda room, thing: basis_fault(room, thing, None))


def padded(kind, length):
    return tuple(kind) + (0,) * (length - len(kind))


def plain_turned_about(kind, length):
    return tuple(sum(part >= number for part in kind) for number in range(1, length + 1))


def all_rooms_within(step=1):
    """(room, within) of small and middle rooms, and each so-manieth of the greater ones."""
    for prime, kind in SMALL_ROOMS + MIDDLE_ROOMS:
        for within in plain_rooms_within(prime, kind)[::step]:
            yield Room(prime, kind), within
    for prime, kind in LARGE_ROOMS + GREATEST_ROOMS:
        for within in plain_rooms_within(prime, kind)[::13 * step]:
            yield Room(prime, kind), within


class KindTest(PlainCase):
    def test_example(self):
        self.assertEqual((kind_of_within(ROOM, HALF), rest_kind(ROOM, HALF)), ((1,), (2,)))
        self.assertEqual((kind_of_within(ROOM, FACING), rest_kind(ROOM, FACING)), ((2,), (1,)))

    def test_against_the_words(self):
        for room, within in all_rooms_within():
            kind = kind_of_within(room, [list(member) for member in within[::-1]])
            rest = rest_kind(room, [list(member) for member in within[::-1]])
            self.assertEqual(kind, plain_kind(room.prime, room.kind, within))
            self.assertEqual(rest, plain_rest_kind(room.prime, room.kind, within))
            self.assertEqual(sum(kind) + sum(rest), sum(room.kind))
            self.assert_tuples((kind, rest))

    def test_nought_and_the_whole_room(self):
        for prime, kind in SMALL_ROOMS + MIDDLE_ROOMS + LARGE_ROOMS + GREATEST_ROOMS:
            room = Room(prime, kind)
            nought = room.members[:1]
            self.assertEqual((kind_of_within(room, nought), rest_kind(room, nought)), ((), kind))
            self.assertEqual((kind_of_within(room, room.members), rest_kind(room, room.members)), (kind, ()))


class ChainTest(PlainCase):
    def test_example(self):
        self.assertEqual(chain_of_within(ROOM, HALF), ((2,), (2, 1)))
        self.assertEqual(chain_of_within(ROOM, ROOM.members), ((), (1, 1), (2, 1)))
        self.assertEqual(chain_of_within(ROOM, [(0, 0)]), ((2, 1),))
        self.assertEqual(chain_of_within(Room(3, ()), ((),)), ((),))

    def test_against_the_words(self):
        for room, within in all_rooms_within(2):
            prime, kind = room.prime, room.kind
            own = plain_kind(prime, kind, within)
            wanted = []
            for times in range((own[0] if own else 0) + 1):
                taken = sorted({plain_multiple(prime, kind, prime ** times, member) for member in within})
                wanted.append(plain_rest_kind(prime, kind, taken))
            found = chain_of_within(room, [list(member) for member in within[::-1]])
            self.assertEqual(found, tuple(wanted))
            self.assert_tuples(found)
            self.assertEqual(found[-1], kind)

    def test_turned_about_it_is_the_chain_of_a_filling(self):
        for room, within in all_rooms_within():
            length = room.kind[0] if room.kind else 1
            own = kind_of_within(room, within)
            chain = [plain_turned_about(kind, length) for kind in chain_of_within(room, within)]
            filling = filling_of_chain(chain if len(chain) > 1 else chain * 2)
            self.assertEqual(filling.before, plain_turned_about(rest_kind(room, within), length))
            self.assertEqual(filling.after, plain_turned_about(room.kind, length))
            self.assertEqual(filling.content, plain_turned_about(own, length))


class BasisTest(PlainCase):
    def plain_sums(self, room, basis, kind):
        """All sums of the members of the basis, each taken as often as it may be, one for each way."""
        sums = [(0,) * len(room.kind)]
        for member, part in zip(basis, kind):
            multiples = [plain_multiple(room.prime, room.kind, times, member) for times in range(room.prime ** part)]
            sums = [
                tuple((x + y) % room.prime ** own for x, y, own in zip(one, other, room.kind))
                for one in sums for other in multiples
            ]
        return sums

    def test_every_room_within_has_one(self):
        for room, within in all_rooms_within():
            kind = plain_kind(room.prime, room.kind, within)
            basis = basis_of_within(room, [list(member) for member in within[::-1]])
            self.assert_tuples(basis)
            self.assertEqual(len(basis), len(kind))
            for member, part in zip(basis, kind):
                self.assertIn(member, within)
                self.assertFalse(any(plain_multiple(room.prime, room.kind, room.prime ** part, member)))
                self.assertTrue(any(plain_multiple(room.prime, room.kind, room.prime ** (part - 1), member)))
            self.assertEqual(sorted(self.plain_sums(room, basis, kind)), list(within))
            self.assertIsNone(basis_fault(room, within, basis))

    def test_nought(self):
        self.assertEqual(basis_of_within(ROOM, [(0, 0)]), ())
        self.assertEqual(basis_of_within(Room(5, ()), [()]), ())
        self.assertIsNone(basis_fault(ROOM, [(0, 0)], ()))
        self.assertIsNone(basis_fault(Room(5, ()), [()], []))

    def test_fault_over_all_choices(self):
        for prime, kind in SMALL_ROOMS[:14]:
            room = Room(prime, kind)
            for within in plain_rooms_within(prime, kind):
                own = plain_kind(prime, kind, within)
                for basis in itertools.product(within, repeat=min(len(own), 2)):
                    exponents = tuple(
                        min(e for e in range(5) if not any(plain_multiple(prime, kind, prime ** e, member)))
                        for member in basis
                    )
                    sums = self.plain_sums(room, basis, own)
                    wanted = None
                    if exponents != own:
                        wanted = "kind"
                    elif len(set(sums)) < len(sums):
                        wanted = "sum"
                    self.assertEqual(basis_fault(room, within, [list(member) for member in basis]), wanted)

    def test_fault(self):
        room = Room(2, (2, 1))
        for wrong in NO_SEQUENCES:
            self.assertEqual(basis_fault(room, room.members, wrong), "member")
            self.assertEqual(basis_fault(room, room.members, [wrong]), "member")
        for wrong in ((4, 0), (0, 2), (True, 0), (0,), (1, 0, 0), (-1, 0), (1.0, 0)):
            self.assertEqual(basis_fault(room, room.members, [(1, 0), wrong]), "member")
        self.assertEqual(basis_fault(room, HALF, [(1, 0)]), "member")
        self.assertEqual(basis_fault(room, HALF, [(2, 1), (2, 0)]), "member")
        for wrong in ((), [(1, 0)], [(0, 1), (1, 0)], [(1, 0), (0, 0)], [(1, 0), (0, 1), (0, 1)], [(2, 0), (0, 1)]):
            self.assertEqual(basis_fault(room, room.members, wrong), "kind")
        self.assertEqual(basis_fault(room, room.members, [(1, 0), (2, 0)]), "sum")
        self.assertEqual(basis_fault(Room(3, (1, 1)), Room(3, (1, 1)).members, [(1, 2), (2, 1)]), "sum")
        self.assertIsNone(basis_fault(room, room.members, [(1, 0), (2, 1)]))
        self.assertIsNone(basis_fault(room, room.members, ([3, 1], [0, 1])))

    def test_a_wrong_room_within_comes_first(self):
        for wrong, word in NO_WITHINS:
            self.assert_refused(BadWithin, (word,), basis_fault, ROOM, wrong, None)


class FindWithinTest(PlainCase):
    def test_all_kinds_of_small_rooms(self):
        for prime, kind in SMALL_ROOMS + MIDDLE_ROOMS + ((2, (2, 2, 1)), (2, (2, 1, 1, 1))):
            room = Room(prime, kind)
            first = {}
            for within in plain_rooms_within(prime, kind):
                first.setdefault((plain_kind(prime, kind, within), plain_rest_kind(prime, kind, within)), within)
            total = sum(kind)
            for size in range(total + 1):
                for own in plain_kinds(size):
                    for rest in plain_kinds(total - size):
                        if max(len(own), len(rest)) <= 4:
                            self.assert_found(room, own, rest, first.get((own, rest)))

    def assert_found(self, room, own, rest, wanted):
        """Just where there is a filling, the first room within of these kinds is found."""
        length = max(len(own), len(rest), len(room.kind), 1)
        filled = is_product(padded(rest, length), padded(own, length), padded(room.kind, length))
        self.assertEqual(filled, wanted is not None)
        if filled:
            self.assertEqual(find_within(room, list(own), list(rest)), wanted)
            self.assert_tuples(find_within(room, own, rest))
        else:
            self.assert_refused(NoWithin, (), find_within, room, own, rest)

    def test_sums_that_do_not_agree(self):
        for kind, rest in (((1,), (1,)), ((2,), (2,)), ((), ()), ((2, 1), (1,)), ((BIG,), ()), ((), (BIG, 1)), ((BIG,), (BIG,))):
            self.assert_refused(NoWithin, (), find_within, ROOM, kind, rest)
        self.assertEqual(find_within(Room(2, ()), (), ()), ((),))
        self.assert_refused(NoWithin, (), find_within, Room(2, ()), (1,), ())

    def test_wrong_kinds_in_their_order(self):
        for wrong, word in NO_KINDS + (((1,) * 5, "many"), ((1, 1, 1, 2, 1), "many")):
            self.assert_refused(BadKind, (word,), find_within, ROOM, wrong, None)
            self.assert_refused(BadKind, (word,), find_within, ROOM, (BIG,), wrong)
        self.assert_refused(BadKind, ("falling",), find_within, ROOM, (1, 2), (0,))


class WrongWithinTest(PlainCase):
    def test_wrong_ones(self):
        for function in ALL:
            for wrong, word in NO_WITHINS:
                self.assert_refused(BadWithin, (word,), function, ROOM, wrong)

    def test_what_is_passed_stays_as_it_was(self):
        chance = random.Random(251)
        for function in ALL:
            within = [list(member) for member in FACING]
            chance.shuffle(within)
            kept = [list(member) for member in within]
            self.assertEqual(function(ROOM, within), function(ROOM, within))
            self.assertEqual(within, kept)
        basis = [[1, 1]]
        self.assertIsNone(basis_fault(ROOM, FACING, basis))
        self.assertEqual(basis, [[1, 1]])
        self.assertEqual(ROOM.members, tuple(plain_members(2, (2, 1))))


if __name__ == "__main__":
    unittest.main()
