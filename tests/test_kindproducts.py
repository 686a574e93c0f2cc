import itertools
import random
import time
import unittest
from fractions import Fraction

from tests.plain import BIG, NO_KINDS, NO_PRIMES, NO_SEQUENCES, PlainCase
from tests.plainrooms import (
    GREATEST_ROOMS, LARGE_ROOMS, MIDDLE_ROOMS, SMALL_ROOMS, plain_kind, plain_kinds, plain_rest_kind, plain_rooms_within,
)
from threeshapes.columncounts import column_poly, own_map_poly, within_poly
from threeshapes.errors import BadChain, BadKind, BadPrime, TooMany
from threeshapes.kindproducts import (
    chain_poly, column_form, count_poly, mix_plus, mix_times, product_of_columns, product_of_kinds, within_count,
)
from threeshapes.listing import count_fillings
from threeshapes.polys import shift_poly

ROOMS = SMALL_ROOMS + MIDDLE_ROOMS + LARGE_ROOMS + GREATEST_ROOMS + ((2, (1, 1, 1, 1, 1)),)
UNIT = (((), (1,)),)


def value(poly, number):
    return sum(own * number ** at for at, own in enumerate(poly))


def weight(kind):
    return sum(at * part for at, part in enumerate(kind))


def couples_of_kinds(most):
    for total in range(most + 1):
        for sums in range(total + 1):
            for a in plain_kinds(total - sums):
                for b in plain_kinds(sums):
                    yield a, b


def plain_poly_sum(polys):
    long = max([len(poly) for poly in polys], default=0)
    numbers = [sum(poly[at] for poly in polys if at < len(poly)) for at in range(long)]
    while numbers and numbers[-1] == 0:
        numbers.pop()
    return tuple(numbers)


def plain_poly_product(one, other):
    terms = [(0,) * at + tuple(number * own for own in other) for at, number in enumerate(one)]
    return plain_poly_sum(terms)


def plain_mix(couples):
    """The mix of couples in which a kind may come more than once."""
    kinds = sorted({kind for kind, _ in couples})
    mix = [(kind, plain_poly_sum([poly for one, poly in couples if one == kind])) for kind in kinds]
    return tuple((kind, poly) for kind, poly in mix if poly)


def plain_mix_product(one, other):
    return plain_mix([
        (kind, plain_poly_product(plain_poly_product(poly, more), number))
        for a, poly in one for b, more in other for kind, number in product_of_kinds(a, b)
    ])


def drawn_mix(chance, most):
    """A mix of kinds with sums to a most, with numbers of both signs."""
    kinds = [kind for total in range(most + 1) for kind in plain_kinds(total)]
    couples = [(kind, tuple(chance.randint(-3, 3) for _ in range(3))) for kind in chance.sample(kinds, min(3, len(kinds)))]
    return plain_mix(couples)


class MixCase(PlainCase):
    def assert_mix(self, mix):
        self.assert_tuples(mix)
        kinds = [kind for kind, _ in mix]
        self.assertEqual(kinds, sorted(set(kinds)))
        self.assertTrue(all(poly and poly[-1] != 0 for _, poly in mix))


class ProductTest(MixCase):
    def test_example(self):
        self.assertEqual(product_of_kinds((1,), (1,)), (((1, 1), (1, 1)), ((2,), (1,))))
        self.assertEqual(column_form((2,)), (((1, 1), (1,)), ((2,), (-1, -1))))
        poly = count_poly((2, 1), (2, 1), (3, 2, 1))
        self.assertEqual((len(poly) - 1, poly[-1]), (2, 2))

    def test_against_all_rooms_within(self):
        for prime, kind in ROOMS:
            counts = {}
            for within in plain_rooms_within(prime, kind):
                both = (plain_rest_kind(prime, kind, within), plain_kind(prime, kind, within))
                counts[both] = counts.get(both, 0) + 1
            total = sum(kind)
            for sums in range(total + 1):
                for a in plain_kinds(total - sums):
                    for b in plain_kinds(sums):
                        self.assertEqual(within_count(prime, list(a), list(b), list(kind)), counts.get((a, b), 0))

    def test_the_product_holds_every_count(self):
        for a, b in couples_of_kinds(6):
            product = product_of_kinds(list(a), list(b))
            self.assert_mix(product)
            self.assertEqual(product, product_of_kinds(b, a))
            total = sum(a) + sum(b)
            wanted = [(c, count_poly(list(a), list(b), list(c))) for c in plain_kinds(total)]
            self.assert_tuples(tuple(wanted))
            self.assertEqual(product, tuple((c, poly) for c, poly in wanted if poly))

    def test_columns_are_known_without_products(self):
        for a, b in couples_of_kinds(6):
            if set(b) <= {1}:
                for c in plain_kinds(sum(a) + sum(b)):
                    self.assertEqual(count_poly(a, b, c), column_poly(a, len(b), c))

    def test_unit(self):
        for total in range(7):
            for kind in plain_kinds(total):
                self.assertEqual(product_of_kinds(kind, ()), ((kind, (1,)),))
                self.assertEqual(product_of_kinds((), kind), ((kind, (1,)),))
        self.assertEqual(product_of_kinds([], []), UNIT)

    def test_wrong_kinds_in_their_order(self):
        for wrong, word in NO_KINDS + (((1,) * 25, "many"),):
            self.assert_refused(BadKind, (word,), product_of_kinds, wrong, None)
            self.assert_refused(BadKind, (word,), product_of_kinds, (BIG,), wrong)
            self.assert_refused(BadKind, (word,), product_of_columns, wrong)
            self.assert_refused(BadKind, (word,), column_form, wrong)
        for a, b in (((7,), ()), ((), (7,)), ((3, 1), (3,)), ((BIG,), (BIG,)), ((1,) * 24, (1,))):
            self.assert_refused(TooMany, (6,), product_of_kinds, a, b)
        for kind in ((7,), (6, 1), (1,) * 7, (BIG,)):
            self.assert_refused(TooMany, (6,), product_of_columns, kind)
            self.assert_refused(TooMany, (6,), column_form, kind)


class CountPolyTest(MixCase):
    def test_fillings_degree_and_values(self):
        for a, b in couples_of_kinds(6):
            polys = dict(product_of_kinds(a, b))
            for c in plain_kinds(sum(a) + sum(b)):
                poly = polys.get(c, ())
                long = max(len(a), len(b), len(c), 1)
                padded = [kind + (0,) * (long - len(kind)) for kind in (a, b, c)]
                fillings = count_fillings(*padded)
                self.assertEqual(poly == (), fillings == 0)
                if fillings:
                    self.assertEqual(len(poly) - 1, weight(c) - weight(a) - weight(b))
                    self.assertEqual(poly[-1], fillings)
                    for x in (2, 3, 5, 7, 11):
                        self.assertGreater(value(poly, x), 0)
                self.assertTrue(all(number >= 0 for number in shift_poly(poly, 1)))
                self.assertEqual(value(poly, 1), self.arrangements(a, b, c))

    def arrangements(self, a, b, c):
        """In how many ways c is, place by place, an arrangement of a plus an arrangement of b."""
        if max(len(a), len(b)) > len(c):
            return 0
        a = a + (0,) * (len(c) - len(a))
        b = b + (0,) * (len(c) - len(b))
        rests = [tuple(part - own for part, own in zip(c, row)) for row in set(itertools.permutations(a))]
        return sum(sorted(rest, reverse=True) == list(b) for rest in rests)

    def test_the_sum_over_all_rests(self):
        for total in range(6):
            for c in plain_kinds(total):
                for sums in range(total + 1):
                    for b in plain_kinds(sums):
                        polys = [count_poly(a, b, c) for a in plain_kinds(total - sums)]
                        self.assertEqual(plain_poly_sum(polys), within_poly(b, c))

    def test_sums_that_do_not_agree(self):
        for c in ((), (1,), (3,), (1, 1, 1), (9, 9), (BIG, 2), (1,) * 24):
            self.assertEqual(count_poly((1,), (1,), c), ())
            self.assertEqual(within_count(2, (1,), (1,), c), 0)
        self.assertEqual(count_poly((), (), ()), (1,))
        self.assertEqual(count_poly((6,), (), (6,)), (1,))

    def test_wrong_arguments_in_their_order(self):
        for wrong, word in NO_KINDS + (((1,) * 25, "many"),):
            for function, ahead in ((count_poly, ()), (within_count, (2,))):
                self.assert_refused(BadKind, (word,), function, *ahead, wrong, None, None)
                self.assert_refused(BadKind, (word,), function, *ahead, (BIG,), wrong, None)
                self.assert_refused(BadKind, (word,), function, *ahead, (BIG,), (7,), wrong)
        for a, b in (((7,), ()), ((), (7,)), ((3, 1), (3,)), ((BIG,), (BIG,))):
            self.assert_refused(TooMany, (6,), count_poly, a, b, (1,))
            self.assert_refused(TooMany, (6,), within_count, 5, a, b, (1,))
        for prime in NO_PRIMES:
            self.assert_refused(BadPrime, (prime,), within_count, prime, None, None, None)


class ColumnsTest(MixCase):
    def plain_columns(self, kind):
        return tuple(sum(part >= number for part in kind) for number in range(1, max(kind, default=0) + 1))

    def test_product_of_columns(self):
        self.assertEqual(product_of_columns(()), UNIT)
        self.assertEqual(product_of_columns([2]), (((1, 1), (1,)),))
        for total in range(7):
            for columns in plain_kinds(total):
                mix = UNIT
                for ones in columns:
                    mix = plain_mix_product(mix, (((1,) * ones, (1,)),))
                found = product_of_columns(list(columns))
                self.assert_mix(found)
                self.assertEqual(found, mix)

    def test_the_kind_comes_last(self):
        for total in range(7):
            for kind in plain_kinds(total):
                self.assertEqual(product_of_columns(self.plain_columns(kind))[-1], (kind, (1,)))

    def test_column_form(self):
        self.assertEqual(column_form(()), UNIT)
        for total in range(7):
            for kind in plain_kinds(total):
                form = column_form(list(kind))
                self.assert_mix(form)
                couples = [
                    (one, plain_poly_product(poly, number))
                    for columns, poly in form for one, number in product_of_columns(columns)
                ]
                self.assertEqual(plain_mix(couples), ((kind, (1,)),))


class MixTest(MixCase):
    def test_plus(self):
        chance = random.Random(281)
        for _ in range(60):
            one, other = drawn_mix(chance, 4), drawn_mix(chance, 4)
            found = mix_plus(one, other)
            self.assert_mix(found)
            self.assertEqual(found, plain_mix(one + other))
        self.assertEqual(mix_plus((), ()), ())
        self.assertEqual(mix_plus((), UNIT), UNIT)
        self.assertEqual(mix_plus((((2,), (1, -1)),), (((2,), (-1, 1)),)), ())
        self.assertEqual(mix_plus((((2,), (1, -1)),), (((1, 1), (5,)), ((2,), (0, 1)))), (((1, 1), (5,)), ((2,), (1,))))
        # Nothing is checked, also not how great the sums are.
        self.assertEqual(mix_plus((((9, 9), (1,)),), (((9, 9), (2,)),)), (((9, 9), (3,)),))

    def test_times(self):
        chance = random.Random(282)
        for sums in ((0, 6), (1, 4), (2, 2), (3, 3), (4, 2), (6, 0)):
            for _ in range(6):
                one, other = drawn_mix(chance, sums[0]), drawn_mix(chance, sums[1])
                found = mix_times(one, other)
                self.assert_mix(found)
                self.assertEqual(found, plain_mix_product(one, other))
                self.assertEqual(found, mix_times(other, one))

    def test_brackets_do_not_matter(self):
        chance = random.Random(283)
        for _ in range(12):
            one, other, third = (drawn_mix(chance, 2) for _ in range(3))
            left = mix_times(mix_times(one, other), third)
            self.assertEqual(left, mix_times(one, mix_times(other, third)))
        for a, b in couples_of_kinds(4):
            for c in plain_kinds(2):
                left = mix_times(product_of_kinds(a, b), ((c, (1,)),))
                self.assertEqual(left, mix_times(((a, (1,)),), product_of_kinds(b, c)))

    def test_nothing_and_unit(self):
        chance = random.Random(284)
        for _ in range(10):
            mix = drawn_mix(chance, 6)
            self.assertEqual((mix_times(mix, UNIT), mix_times(UNIT, mix)), (mix, mix))
            self.assertEqual((mix_times(mix, ()), mix_times((), mix)), ((), ()))
        great = (((7,), (1,)), ((9, 9), (2,)))
        self.assertEqual((mix_times((), great), mix_times(great, ()), mix_times((), ())), ((), (), ()))

    def test_too_many(self):
        for one, other in (
            ((((7,), (1,)),), UNIT), (UNIT, (((7,), (1,)),)), ((((3,), (1,)),), (((4,), (1,)),)),
            ((((), (1,)), ((4,), (1,))), (((1,), (1,)), ((2, 1), (1,)))), ((((BIG,), (1,)),), (((BIG,), (1,)),)),
        ):
            self.assert_refused(TooMany, (6,), mix_times, one, other)
        self.assertEqual(mix_times((((6,), (1,)),), UNIT), (((6,), (1,)),))
        self.assertEqual(len(mix_times((((3,), (1,)),), (((2, 1), (1,)),))), len(product_of_kinds((3,), (2, 1))))


class ChainPolyTest(MixCase):
    def plain_chains(self, prime, kind):
        """How many chains there are from nought to the whole room, by the rest kinds of each in the next one."""
        rooms = plain_rooms_within(prime, kind)
        counts = {rooms[0]: {(): 1}}
        for within in rooms[1:]:
            found = counts.setdefault(within, {})
            for smaller in rooms:
                if len(smaller) < len(within) and set(smaller) <= set(within):
                    rest = self.rest_of(prime, kind, within, smaller)
                    for kinds, number in counts[smaller].items():
                        found[kinds + (rest,)] = found.get(kinds + (rest,), 0) + number
        return counts[rooms[-1]]

    def rest_of(self, prime, kind, within, smaller):
        """The kind of the rests of the smaller room within the other one."""
        inside = set(smaller)
        counts = []
        for exponent in range(max(kind) + 1):
            killed = [
                member for member in within
                if tuple(prime ** exponent * x % prime ** part for x, part in zip(member, kind)) in inside
            ]
            counts.append(len(killed) // len(smaller))
        found = [
            one for total in range(sum(kind) + 1) for one in plain_kinds(total)
            if all(count == prime ** sum(min(part, exponent) for part in one) for exponent, count in enumerate(counts))
        ]
        return found[0]

    def test_against_all_chains(self):
        for prime, kind in ((2, (1,)), (2, (2,)), (2, (1, 1)), (3, (1, 1)), (2, (2, 1)), (2, (3,)), (2, (1, 1, 1)), (2, (2, 2)),
                            (3, (2, 1)), (2, (2, 1, 1)), (2, (3, 1))):
            chains = self.plain_chains(prime, kind)
            small = [one for total in range(1, sum(kind) + 1) for one in plain_kinds(total)]
            for many in range(1, sum(kind) + 1):
                for kinds in itertools.product(small, repeat=many):
                    if sum(map(sum, kinds)) == sum(kind):
                        self.assertEqual(value(chain_poly(kinds, kind), prime), chains.get(kinds, 0))

    def test_orders_and_empty_kinds(self):
        for kinds in (((1,), (2,), (1, 1)), ((2, 1), (), (1,)), ((1,), (1,), (2,), ())):
            for c in plain_kinds(sum(map(sum, kinds))):
                found = {chain_poly(order, c) for order in itertools.permutations(kinds)}
                self.assertEqual(len(found), 1)
                self.assertEqual(chain_poly([kind for kind in kinds if kind], c), found.pop())

    def test_no_kinds_one_and_two(self):
        for nothing in ((), [], ((),), ((),) * 8):
            self.assertEqual(chain_poly(nothing, ()), (1,))
            self.assertEqual(chain_poly(nothing, (1,)), ())
        for a, b in couples_of_kinds(4):
            for c in plain_kinds(sum(a) + sum(b)):
                self.assertEqual(chain_poly([list(a), list(b)], list(c)), count_poly(a, b, c))
                self.assert_tuples(chain_poly([list(a), list(b)], list(c)))
            self.assertEqual(chain_poly((a,), a), (1,))
            self.assertEqual(chain_poly((a,), a + (1,)), ())
        # A chain through all sizes in a room of six ones.
        poly = chain_poly(((1,),) * 6, (1,) * 6)
        self.assertEqual(value(poly, 2), 1 * 3 * 7 * 15 * 31 * 63)

    def test_wrong_arguments_in_their_order(self):
        for wrong in NO_SEQUENCES + (((),) * 9, [(BIG,)] * 9, ((1,),) * 8 + (None,)):
            self.assert_refused(BadChain, (), chain_poly, wrong, None)
        for wrong, word in NO_KINDS + (((1,) * 25, "many"),):
            self.assert_refused(BadKind, (word,), chain_poly, [wrong, None], None)
            self.assert_refused(BadKind, (word,), chain_poly, [(BIG,), (), wrong], None)
            self.assert_refused(BadKind, (word,), chain_poly, [(BIG,)], wrong)
            self.assert_refused(BadKind, (word,), chain_poly, [], wrong)
        self.assert_refused(TooMany, (6,), chain_poly, ((1,),) * 7, (1,))
        self.assert_refused(TooMany, (6,), chain_poly, [(3,), (), (2, 2)], ())
        self.assert_refused(TooMany, (6,), chain_poly, [(BIG,)], (BIG,))
        self.assertEqual(chain_poly([(1,)], (BIG,)), ())


class GreenTest(PlainCase):
    def test_green(self):
        for total in (0, 1, 2, 3, 4):
            quadruples = list(self.quadruples(total))
            for prime in (2, 3, 5):
                counts = self.counts(total, prime)
                owns = {kind: value(own_map_poly(kind), prime) for one in range(total + 1) for kind in plain_kinds(one)}
                for a, b, d, e in quadruples:
                    left = sum(
                        Fraction(counts.get((a, b, c), 0) * counts.get((d, e, c), 0), owns[c]) for c in plain_kinds(total)
                    ) * owns[a] * owns[b] * owns[d] * owns[e]
                    self.assertEqual(left, self.right(counts, owns, a, b, d, e))

    def quadruples(self, total):
        couples = [(a, b) for a, b in couples_of_kinds(total) if sum(a) + sum(b) == total]
        for (a, b), (d, e) in itertools.product(couples, repeat=2):
            yield a, b, d, e

    def counts(self, total, prime):
        found = {}
        for a, b in couples_of_kinds(total):
            for c, poly in product_of_kinds(a, b):
                found[a, b, c] = value(poly, prime)
        return found

    def right(self, counts, owns, a, b, d, e):
        total = 0
        # The sums of s, t, u and v follow from that of s.
        for first in range(min(sum(a), sum(d)) + 1):
            if sum(e) - (sum(a) - first) < 0:
                continue
            for s, t in itertools.product(plain_kinds(first), plain_kinds(sum(a) - first)):
                for u, v in itertools.product(plain_kinds(sum(d) - first), plain_kinds(sum(e) - sum(t))):
                    number = (
                        counts.get((s, t, a), 0) * counts.get((u, v, b), 0) * counts.get((s, u, d), 0)
                        * counts.get((t, v, e), 0)
                    )
                    total += number * owns[s] * owns[t] * owns[u] * owns[v]
        return total


class QuickTest(PlainCase):
    def test_sums_of_six_are_quick(self):
        start = time.perf_counter()
        mix = tuple(sorted((kind, (1, -1)) for total in range(4) for kind in plain_kinds(total)))
        self.assertEqual(mix_times(mix, mix), mix_times(mix, mix))
        for kind in plain_kinds(6):
            self.assertEqual(column_form(kind), column_form(kind))
            self.assertEqual(value(chain_poly([(1,)] * 6, kind), 2) > 0, True)
        self.assertLess(time.perf_counter() - start, 20)

    def test_what_is_passed_stays_as_it_was(self):
        a, b, kinds = [2, 1], [1], [[1], [2]]
        for _ in range(2):
            self.assertEqual(product_of_kinds(a, b), product_of_kinds((2, 1), (1,)))
            self.assertEqual(count_poly(a, b, [2, 2]), count_poly((2, 1), (1,), (2, 2)))
            self.assertEqual(chain_poly(kinds, a), chain_poly(((1,), (2,)), (2, 1)))
            self.assertEqual(column_form(a), column_form((2, 1)))
            self.assertEqual(product_of_columns(a), product_of_columns((2, 1)))
        self.assertEqual((a, b, kinds), ([2, 1], [1], [[1], [2]]))


if __name__ == "__main__":
    unittest.main()
