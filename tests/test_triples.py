import itertools
import unittest

from tests.plain import BIG, PlainCase, plain_fillings
from threeshapes.errors import BadSize, BadTriple
from threeshapes.listing import count_fillings
from threeshapes.triples import (
    check_triple, filled_triples, needful_triples, places_shape, triple_number, turned_triple,
)

NOT_NEEDFUL = ((1, 3, 5), (1, 3, 5), (2, 4, 6))
NO_SIZES = (0, 1, 7, -2, True, None, 2.0, "3", BIG, (3,))


def plain_shape(places):
    return tuple(place - at - 1 for at, place in reversed(list(enumerate(places))))


def plain_number(triple):
    """The number of a triple, counted plainly; most of them have unlike sums."""
    before, content, after = [plain_shape(places) for places in triple]
    if sum(before) + sum(content) != sum(after):
        return 0
    return len(plain_fillings(before, content, after))


def all_triples(n, r):
    return itertools.product(itertools.combinations(range(1, n + 1), r), repeat=3)


class PlacesTest(PlainCase):
    def test_shapes_of_places(self):
        self.assertEqual(places_shape((1, 3, 5)), (2, 1, 0))
        self.assertEqual(places_shape([2, 4, 6]), (3, 2, 1))
        self.assertEqual(places_shape((1, 2, 3)), (0, 0, 0))
        self.assertEqual(places_shape([6]), (5,))
        self.assertEqual(places_shape((3, 10, BIG)), (BIG - 3, 8, 2))
        self.assert_tuples(places_shape([2, 3]))
        for n in range(1, 8):
            for r in range(1, n + 1):
                for places in itertools.combinations(range(1, n + 1), r):
                    self.assertEqual(places_shape(places), plain_shape(places))


class CheckTripleTest(PlainCase):
    functions = (check_triple, triple_number, turned_triple)

    def test_triples_are_returned_filled_or_not(self):
        for n in (2, 3, 4):
            for r in range(1, n):
                for triple in all_triples(n, r):
                    self.assertEqual(check_triple(n, triple), triple)
                    self.assertEqual(check_triple(n, [list(places) for places in triple]), triple)
        self.assert_tuples(check_triple(6, [[1, 2], [3, 4], [5, 6]]))

    def test_what_is_passed_is_not_kept(self):
        triple = [[1], [2], [2]]
        checked = check_triple(2, triple)
        turned_triple(2, triple)
        triple_number(2, triple)
        self.assertEqual(triple, [[1], [2], [2]])
        triple[0][0] = 2
        self.assertEqual(checked, ((1,), (2,), (2,)))

    def test_size(self):
        for function in self.functions:
            for n in NO_SIZES:
                self.assert_refused(BadSize, (n,), function, n, None)
                self.assert_refused(BadSize, (n,), function, n, ((1,), (1,), (1,)))

    def test_rows(self):
        for function in self.functions:
            for wrong in (None, 7, "123", (), ((1,), (1,)), ((1,),) * 4, ((1,), (1,), 1), ("1", "1", "1"),
                          ((1,), {1}, (1,)), {(1,): 1, (2,): 2, (3,): 3}, ((1,), None, (1,))):
                self.assert_refused(BadTriple, ("rows",), function, 3, wrong)

    def test_number(self):
        for function in self.functions:
            for wrong in ((0,), (4,), (True,), (None,), (1.0,), ("1",), (2, 1), (1, 1), (-1,), (1, 3, 2)):
                self.assert_refused(BadTriple, ("number",), function, 3, (wrong, (1,), (1,)))
                self.assert_refused(BadTriple, ("number",), function, 3, ((1,), wrong, (1,)))
                self.assert_refused(BadTriple, ("number",), function, 3, ((1,), (1,), wrong))

    def test_many(self):
        for function in self.functions:
            for wrong in (((1,), (1, 2), (1,)), ((1, 2), (1,), (1,)), ((1,), (1,), (1, 2)), ((), (), ()),
                          ((1, 2, 3),) * 3, ((), (1,), (1,)), ((1,), (1,), ())):
                self.assert_refused(BadTriple, ("many",), function, 3, wrong)

    def test_earlier_words_come_first(self):
        for function in self.functions:
            self.assert_refused(BadTriple, ("rows",), function, 3, ((9,), (1, 2), 3))
            self.assert_refused(BadTriple, ("number",), function, 3, ((1,), (1, 2), (9,)))
            self.assert_refused(BadTriple, ("number",), function, 2, ((1, 2), (1, 2), (2, 1)))


class TriplesTest(PlainCase):
    def test_numbers_and_filled_and_needful_triples(self):
        for n in range(2, 7):
            needful = []
            for r in range(1, n):
                numbers = {triple: plain_number(triple) for triple in all_triples(n, r)}
                filled = [triple for triple in numbers if numbers[triple]]
                self.assertEqual(filled_triples(n, r), tuple(sorted(filled)))
                needful.extend(sorted(triple for triple in filled if numbers[triple] == 1))
                for triple in filled[::5] + list(numbers)[::97]:
                    self.assertEqual(triple_number(n, triple), numbers[triple])
                for triple in filled:
                    self.assertEqual(numbers[triple] == 1, triple != NOT_NEEDFUL)
            self.assertEqual(needful_triples(n), tuple(needful))
            self.assert_tuples(needful_triples(n))

    def test_few_of_them(self):
        self.assertEqual(filled_triples(2, 1), (((1,), (1,), (1,)), ((1,), (2,), (2,)), ((2,), (1,), (2,))))
        self.assertEqual(needful_triples(2), filled_triples(2, 1))
        self.assertEqual([len(filled_triples(6, r)) for r in range(1, 6)], [21, 126, 228, 126, 21])
        self.assertEqual(len(needful_triples(6)), 521)
        self.assertEqual(triple_number(6, NOT_NEEDFUL), 2)
        self.assertIn(NOT_NEEDFUL, filled_triples(6, 3))
        self.assertEqual(triple_number(3, ((3,), (3,), (1,))), 0)

    def test_one_place(self):
        for n in range(2, 7):
            wanted = [((i,), (j,), (i + j - 1,)) for i in range(1, n + 1) for j in range(1, n + 2 - i)]
            self.assertEqual(filled_triples(n, 1), tuple(wanted))

    def test_numbers_of_changed_triples(self):
        for n in range(2, 7):
            for r in range(1, n):
                for triple in filled_triples(n, r):
                    ones, others, sums = triple
                    number = count_fillings(*[plain_shape(places) for places in triple])
                    self.assertEqual(triple_number(n, turned_triple(n, triple)), number)
                    self.assertEqual(triple_number(n, (others, ones, sums)), number)

    def test_turned(self):
        self.assertEqual(turned_triple(3, ((1,), (1,), (1,))), ((1, 2), (1, 2), (1, 2)))
        self.assertEqual(turned_triple(6, [[1, 2], [1, 6], [3, 5]]), ((1, 2, 3, 4), (2, 3, 4, 5), (1, 3, 5, 6)))
        for n in range(2, 6):
            for r in range(1, n):
                for triple in all_triples(n, r):
                    turned = turned_triple(n, triple)
                    self.assertEqual(turned_triple(n, turned), triple)
                    for places, others in zip(triple, turned):
                        self.assertEqual(list(others), sorted(others))
                        self.assertEqual(set(others), {n + 1 - x for x in range(1, n + 1) if x not in places})

    def test_told_without_fillings(self):
        for n in range(2, 6):
            for r in range(1, n):
                told = []
                for ones, others, sums in all_triples(n, r):
                    keeps = sum(ones) + sum(others) == sum(sums) + r * (r + 1) // 2
                    for p in range(1, r):
                        for first, second, third in filled_triples(r, p):
                            less = sum(ones[f - 1] for f in first) + sum(others[g - 1] for g in second)
                            keeps = keeps and less <= sum(sums[h - 1] for h in third) + p * (p + 1) // 2
                    if keeps:
                        told.append((ones, others, sums))
                self.assertEqual(filled_triples(n, r), tuple(told))

    def test_wrong_sizes(self):
        for n in NO_SIZES:
            self.assert_refused(BadSize, (n,), filled_triples, n, 0)
            self.assert_refused(BadSize, (n,), needful_triples, n)
        for r in (0, 4, -1, True, None, 1.0, "1", BIG):
            self.assert_refused(BadSize, (r,), filled_triples, 4, r)


if __name__ == "__main__":
    unittest.main()
