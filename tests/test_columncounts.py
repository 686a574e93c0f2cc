import itertools
import time
import unittest

from tests.plain import BIG, NO_KINDS, NO_WHOLE, PlainCase
from tests.plainrooms import (
    GREATEST_ROOMS, LARGE_ROOMS, MIDDLE_ROOMS, SMALL_ROOMS, plain_added, plain_closed, plain_kind, plain_kinds, plain_members,
    plain_multiple, plain_rest_kind, plain_rooms_within,
)
from threeshapes.columncounts import column_poly, columns_of, kinds_of_sum, map_poly, own_map_poly, within_poly
from threeshapes.errors import BadKind, BadMany, TooMany
from threeshapes.polys import p_count

# Rooms of more than 4 parts, too: these counts have no bound on the number of parts.
ROOMS = SMALL_ROOMS + MIDDLE_ROOMS + LARGE_ROOMS + GREATEST_ROOMS[:2] + ((2, (1, 1, 1, 1, 1)),)
TWO_KINDS = (within_poly, map_poly)


def value(poly, number):
    return sum(own * number ** at for at, own in enumerate(poly))


def plain_columns(kind):
    return tuple(sum(part >= number for part in kind) for number in range(1, max(kind, default=0) + 1))


def plain_counts(prime, kind):
    """How many rooms within there are of each (kind, rest kind)."""
    counts = {}
    for within in plain_rooms_within(prime, kind):
        both = (plain_kind(prime, kind, within), plain_rest_kind(prime, kind, within))
        counts[both] = counts.get(both, 0) + 1
    return counts


def plain_maps(prime, one, other):
    """All maps from the first room to the second one, each as the members to which the single ones are led."""
    members = plain_members(prime, other)
    choices = [
        [member for member in members if not any(plain_multiple(prime, other, prime ** part, member))] for part in one
    ]
    return itertools.product(*choices)


class ColumnsOfTest(PlainCase):
    def test_all_kinds(self):
        for total in range(13):
            for kind in plain_kinds(total):
                self.assertEqual(columns_of(list(kind)), plain_columns(kind))
                self.assertEqual(columns_of(columns_of(kind)), kind)
                self.assert_tuples(columns_of(list(kind)))
        self.assertEqual(columns_of(()), ())
        self.assertEqual(columns_of((12,)), (1,) * 12)

    def test_wrong_kinds(self):
        for wrong, word in NO_KINDS + (((1,) * 25, "many"),):
            self.assert_refused(BadKind, (word,), columns_of, wrong)
            self.assert_refused(BadKind, (word,), own_map_poly, wrong)
        for kind in ((13,), (12, 1), (1,) * 13, (1,) * 24, (BIG, 1)):
            self.assert_refused(TooMany, (12,), columns_of, kind)
            self.assert_refused(TooMany, (12,), own_map_poly, kind)


class KindsOfSumTest(PlainCase):
    def test_all_sums(self):
        for total in range(13):
            kinds = kinds_of_sum(total)
            self.assertEqual(kinds, tuple(plain_kinds(total)))
            self.assertEqual(list(kinds), sorted(kinds))
            self.assert_tuples(kinds)
        self.assertEqual(kinds_of_sum(0), ((),))
        self.assertEqual(kinds_of_sum(3), ((1, 1, 1), (2, 1), (3,)))
        self.assertEqual(len(kinds_of_sum(12)), 77)

    def test_wrong_sums(self):
        for total in NO_WHOLE + (-1, -BIG):
            self.assert_refused(BadMany, (total,), kinds_of_sum, total)
        for total in (13, BIG):
            self.assert_refused(TooMany, (12,), kinds_of_sum, total)


class ColumnPolyTest(PlainCase):
    def test_against_all_rooms_within(self):
        for prime, kind in ROOMS:
            counts = plain_counts(prime, kind)
            total = sum(kind)
            for ones in range(total + 2):
                for rest in plain_kinds(max(total - ones, 0)):
                    found = column_poly(list(rest), ones, list(kind))
                    self.assert_tuples(found)
                    self.assertEqual(value(found, prime), counts.get(((1,) * ones, rest), 0))

    def test_the_sum_over_all_rests(self):
        for total in range(9):
            for kind in plain_kinds(total):
                for ones in range(total + 1):
                    for x in (2, 3, 5):
                        numbers = [value(column_poly(rest, ones, kind), x) for rest in plain_kinds(total - ones)]
                        self.assertEqual(sum(numbers), value(p_count(len(kind), ones), x))

    def test_sums_that_do_not_agree(self):
        self.assertEqual(column_poly((1,), 1, (1,)), ())
        self.assertEqual(column_poly((2,), 1, (1,)), ())
        self.assertEqual(column_poly((), 0, ()), (1,))
        self.assertEqual(column_poly((), 0, (1,)), ())
        self.assertEqual(column_poly((), BIG, (1,)), ())
        self.assertEqual(column_poly((12,), 0, (12,)), (1,))
        self.assertEqual(column_poly((), 12, (1,) * 12), (1,))
        # The sums agree, but part 3 is not among the kind's columns.
        self.assertEqual(column_poly((3,), 1, (2, 2)), ())
        self.assertEqual(column_poly((1, 1, 1), 1, (2, 2)), ())

    def test_wrong_arguments_in_their_order(self):
        for wrong, word in NO_KINDS + (((1,) * 25, "many"),):
            self.assert_refused(BadKind, (word,), column_poly, wrong, -1, None)
            self.assert_refused(BadKind, (word,), column_poly, (BIG,), 1, wrong)
        for ones in NO_WHOLE + (-1, -BIG):
            self.assert_refused(BadMany, (ones,), column_poly, (13,), ones, None)
        self.assert_refused(TooMany, (12,), column_poly, (13,), 0, (1,))
        self.assert_refused(TooMany, (12,), column_poly, (1,), 0, (12, 1))
        self.assert_refused(TooMany, (12,), column_poly, (BIG,), 0, (BIG,))


class WithinPolyTest(PlainCase):
    def test_against_all_rooms_within(self):
        for prime, kind in ROOMS:
            counts = plain_counts(prime, kind)
            for total in range(sum(kind) + 2):
                for part in plain_kinds(total):
                    found = within_poly(list(part), list(kind))
                    self.assert_tuples(found)
                    own = sum(number for (one, _), number in counts.items() if one == part)
                    rest = sum(number for (_, other), number in counts.items() if other == part)
                    self.assertEqual((value(found, prime), own), (own, rest))

    def test_ends(self):
        for total in range(13):
            for kind in plain_kinds(total)[::5]:
                self.assertEqual(within_poly((), kind), (1,))
                self.assertEqual(within_poly(kind, kind), (1,))
        self.assertEqual(within_poly((1,), ()), ())
        self.assertEqual(within_poly((3,), (2, 2)), ())
        self.assertEqual(within_poly((1, 1, 1), (2, 2)), ())
        self.assertEqual(within_poly((1,) * 6, (1,) * 12), p_count(12, 6))


class MapPolyTest(PlainCase):
    def test_against_all_maps(self):
        for prime in (2, 3, 5):
            kinds = [kind for total in range(4) for kind in plain_kinds(total) if prime ** total <= 27]
            for one in kinds:
                for other in kinds:
                    wanted = sum(1 for _ in plain_maps(prime, one, other))
                    found = map_poly(list(one), list(other))
                    self.assertEqual(value(found, prime), wanted)
                    # It is x to one power.
                    self.assertEqual((found[-1], sum(found)), (1, 1))
                    self.assert_tuples(found)

    def test_own_maps(self):
        for prime, kind in SMALL_ROOMS[:14] + ((2, (2, 2)), (2, (2, 1, 1)), (3, (2, 1)), (3, (3,))):
            if kind == (1, 1, 1, 1):
                continue
            size = prime ** sum(kind)
            wanted = sum(
                len(plain_closed(prime, kind, led)) == size for led in plain_maps(prime, kind, kind)
            )
            found = own_map_poly(list(kind))
            self.assertEqual(value(found, prime), wanted)
            self.assert_tuples(found)

    def test_maps_add_what_is_added(self):
        """What the single ones are led to makes a map, and every map is made so: all tables of values, for small rooms."""
        for prime, one, other in ((2, (1,), (2,)), (2, (2,), (1, 1)), (2, (1, 1), (2,)), (3, (1,), (1,)), (2, (2,), (2,))):
            members, targets = plain_members(prime, one), plain_members(prime, other)
            maps = 0
            for values in itertools.product(targets, repeat=len(members)):
                led = dict(zip(members, values))
                maps += all(
                    led[plain_added(prime, one, x, y)] == plain_added(prime, other, led[x], led[y])
                    for x in members for y in members
                )
            self.assertEqual(value(map_poly(one, other), prime), maps)

    def test_known_numbers(self):
        self.assertEqual(own_map_poly(()), (1,))
        self.assertEqual(own_map_poly((1,)), (-1, 1))
        self.assertEqual(value(own_map_poly((1, 1)), 2), 6)
        self.assertEqual(value(own_map_poly((1, 1, 1)), 2), 168)
        self.assertEqual(map_poly((), (3, 1)), (1,))
        self.assertEqual(map_poly((2, 1), (2, 1)), (0, 0, 0, 0, 0, 1))

    def test_every_map_makes_one_room_within_and_leaves_another(self):
        for sums in itertools.product(range(6), repeat=2):
            for one in plain_kinds(sums[0]):
                for other in plain_kinds(sums[1]):
                    kinds = [kind for total in range(min(sums) + 1) for kind in plain_kinds(total)]
                    for x in (2, 3, 5):
                        numbers = [
                            value(within_poly(kind, one), x) * value(within_poly(kind, other), x) * value(own_map_poly(kind), x)
                            for kind in kinds
                        ]
                        self.assertEqual(sum(numbers), value(map_poly(one, other), x))


class OfTwoKindsTest(PlainCase):
    def test_wrong_kinds_in_their_order(self):
        for function in TWO_KINDS:
            for wrong, word in NO_KINDS + (((1,) * 25, "many"),):
                self.assert_refused(BadKind, (word,), function, wrong, None)
                self.assert_refused(BadKind, (word,), function, (BIG,), wrong)
            self.assert_refused(TooMany, (12,), function, (13,), (1,))
            self.assert_refused(TooMany, (12,), function, (1,), (7, 6))
            self.assert_refused(TooMany, (12,), function, (1,) * 24, (BIG, BIG))

    def test_sums_of_twelve_are_quick(self):
        start = time.perf_counter()
        kinds = plain_kinds(12)
        for kind in kinds:
            self.assertGreater(value(own_map_poly(kind), 2), 0)
            self.assertGreater(value(map_poly(kind, kinds[0]), 2), 0)
            self.assertGreater(value(within_poly(kind[1:], kind), 2), 0)
            self.assertEqual(value(column_poly((), len(kind), kind), 2), int(kind[0] == 1))
        self.assertLess(time.perf_counter() - start, 20)

    def test_what_is_passed_stays_as_it_was(self):
        one, other = [2, 1], [3, 1]
        for function in TWO_KINDS:
            self.assertEqual(function(one, other), function(one, other))
        self.assertEqual(column_poly(one, 1, other), column_poly(one, 1, other))
        self.assertEqual(columns_of(one), (2, 1))
        self.assertEqual(own_map_poly(one), own_map_poly(one))
        self.assertEqual((one, other), ([2, 1], [3, 1]))


if __name__ == "__main__":
    unittest.main()
