import unittest

from tests.plain import BIG, PlainCase, falling_rows, shapes_of_sum
from threeshapes.errors import BadKind, BadShape
from threeshapes.shapes import (
    check_kind, check_shape, is_above, kind_of_shape, shape_of_kind, sum_of_shape, turned_about, weight_of,
)

NO_SEQUENCES = (None, 7, "21", b"21", {2: 1}, {2, 1}, range(2), iter([1]))
NO_PARTS = (True, False, None, 1.0, "1", (1,), -1, -BIG)


class CheckShapeTest(PlainCase):
    def test_shapes_are_returned_as_tuples(self):
        for thing in ((0,), [3], (2, 1, 0), [2, 2, 2, 2], (BIG, BIG, 1), [0, 0, 0, 0]):
            shape = check_shape(thing)
            self.assertEqual(shape, tuple(thing))
            self.assert_tuples(shape)

    def test_what_is_passed_is_not_kept(self):
        thing = [3, 1]
        shape = check_shape(thing)
        thing[0] = 0
        self.assertEqual(shape, (3, 1))

    def test_many(self):
        for thing in NO_SEQUENCES + ((), [], (1,) * 5):
            self.assert_refused(BadShape, ("many",), check_shape, thing)
        self.assert_refused(BadShape, ("many",), check_shape, (2, 1), 3)
        self.assert_refused(BadShape, ("many",), check_shape, (2, 1), length=1)
        self.assert_refused(BadShape, ("many",), check_shape, (2, 1, 1), most=2)
        self.assert_refused(BadShape, ("many",), check_shape, (1,) * 25, None, 24)
        self.assert_refused(BadShape, ("many",), check_shape, (1,) * 6, 6)

    def test_length_and_most(self):
        self.assertEqual(check_shape([2, 1], 2), (2, 1))
        self.assertEqual(check_shape([1] * 24, most=24), (1,) * 24)
        self.assertEqual(check_shape([1] * 6, 6, 6), (1,) * 6)

    def test_number(self):
        for part in NO_PARTS:
            self.assert_refused(BadShape, ("number",), check_shape, (part,))
            self.assert_refused(BadShape, ("number",), check_shape, (2, part))

    def test_falling(self):
        for thing in ((0, 1), [1, 2], (3, 2, 3), (2, 2, 1, 2), (BIG, BIG + 1)):
            self.assert_refused(BadShape, ("falling",), check_shape, thing)

    def test_earlier_words_come_first(self):
        self.assert_refused(BadShape, ("many",), check_shape, (1, 2, 3, 4, True))
        self.assert_refused(BadShape, ("many",), check_shape, (True, 2), 3)
        self.assert_refused(BadShape, ("number",), check_shape, (1, 2, True))
        self.assert_refused(BadShape, ("number",), check_shape, (0, 1, -1))


class CheckKindTest(PlainCase):
    def test_kinds_are_returned_as_tuples(self):
        for thing in ((), [], (3,), [2, 1, 1], [1] * 24, (BIG, 1)):
            kind = check_kind(thing)
            self.assertEqual(kind, tuple(thing))
            self.assert_tuples(kind)

    def test_many(self):
        for thing in NO_SEQUENCES + ((1,) * 25,):
            self.assert_refused(BadKind, ("many",), check_kind, thing)
        self.assert_refused(BadKind, ("many",), check_kind, (1,) * 5, 4)
        self.assert_refused(BadKind, ("many",), check_kind, (1, 2, 0), most=2)

    def test_number(self):
        for part in NO_PARTS + (0,):
            self.assert_refused(BadKind, ("number",), check_kind, (part,))
            self.assert_refused(BadKind, ("number",), check_kind, [1, 2, part])

    def test_falling(self):
        for thing in ((1, 2), [3, 1, 2]):
            self.assert_refused(BadKind, ("falling",), check_kind, thing)


class ShapesTest(PlainCase):
    def test_sums_and_weights(self):
        self.assertEqual(sum_of_shape((4, 2, 1)), 7)
        self.assertEqual(sum_of_shape([]), 0)
        self.assertEqual(weight_of((4, 2, 1)), 4)
        self.assertEqual(weight_of([5]), 0)
        self.assertEqual(weight_of(()), 0)
        self.assertEqual(weight_of((BIG, BIG, BIG, BIG)), 6 * BIG)

    def test_weight_counts_the_columns(self):
        for shape in falling_rows(4, 4):
            columns = turned_about(shape)
            self.assertEqual(weight_of(shape), sum(part * (part - 1) // 2 for part in columns))

    def test_kinds_of_shapes(self):
        self.assertEqual(kind_of_shape((3, 1, 0, 0)), (3, 1))
        self.assertEqual(kind_of_shape([0, 0]), ())
        self.assertEqual(kind_of_shape(()), ())
        self.assert_tuples(kind_of_shape([2, 0]))

    def test_shapes_of_kinds(self):
        self.assertEqual(shape_of_kind([3, 1], 4), (3, 1, 0, 0))
        self.assertEqual(shape_of_kind((3, 1), 2), (3, 1))
        self.assertEqual(shape_of_kind((), 3), (0, 0, 0))
        self.assertEqual(shape_of_kind((), 0), ())
        self.assertEqual(shape_of_kind((2, 0), 3), (2, 0, 0))
        self.assertEqual(len(shape_of_kind([1] * 20, 24)), 24)
        self.assert_refused(BadShape, ("many",), shape_of_kind, (3, 1), 1)
        self.assert_refused(BadShape, ("many",), shape_of_kind, (2, 0, 0), 2)
        self.assert_refused(BadShape, ("many",), shape_of_kind, [1], 0)

    def test_kind_and_shape_go_back(self):
        for shape in falling_rows(4, 3):
            self.assertEqual(shape_of_kind(kind_of_shape(shape), 4), shape)

    def test_is_above(self):
        self.assertIs(is_above((2, 2), (2, 1, 1)), True)
        self.assertIs(is_above([2, 1, 1], (2, 2)), False)
        self.assertIs(is_above((3, 0, 0), [1, 1, 1]), True)
        self.assertIs(is_above((3,), (1, 1)), False)
        self.assertIs(is_above((1, 1), (3,)), False)
        self.assertIs(is_above((4, 1, 1), (3, 3)), False)
        self.assertIs(is_above((3, 3), (4, 1, 1)), False)
        self.assertIs(is_above((), (0, 0)), True)
        self.assertIs(is_above((2, 0, 0), (2,)), True)

    def test_is_above_by_its_sums(self):
        rows = falling_rows(3, 4) + falling_rows(2, 4)
        for one in rows:
            for other in rows:
                wanted = sum(one) == sum(other) and all(sum(one[:at]) >= sum(other[:at]) for at in range(4))
                self.assertIs(is_above(one, other), wanted)

    def test_turning_about_turns_the_order(self):
        for total in range(8):
            for one in shapes_of_sum(4, total):
                for other in shapes_of_sum(4, total):
                    turned = is_above(turned_about(other), turned_about(one))
                    self.assertIs(is_above(one, other), turned)


class TurnedAboutTest(PlainCase):
    def test_examples(self):
        self.assertEqual(turned_about((3, 1)), (2, 1, 1))
        self.assertEqual(turned_about([3, 1, 0]), (2, 1, 1))
        self.assertEqual(turned_about((3, 1), 5), (2, 1, 1, 0, 0))
        self.assertEqual(turned_about((3, 1), length=3), (2, 1, 1))
        self.assert_tuples(turned_about([3, 1]))

    def test_noughts_and_nothing(self):
        for shape in ((), [], (0,), (0, 0, 0)):
            self.assertEqual(turned_about(shape), (0,))
            self.assertEqual(turned_about(shape, 1), (0,))
            self.assertEqual(turned_about(shape, 3), (0, 0, 0))
            self.assert_refused(BadShape, ("many",), turned_about, shape, 0)

    def test_a_short_length_is_refused(self):
        self.assert_refused(BadShape, ("many",), turned_about, (3, 1), 2)
        self.assert_refused(BadShape, ("many",), turned_about, (1,), 0)
        self.assert_refused(BadShape, ("many",), turned_about, (1,), -1)

    def test_many_and_great_parts(self):
        self.assertEqual(turned_about((1000, 1)), (2,) + (1,) * 999)
        self.assertEqual(turned_about((1,) * 1000), (1000,))
        self.assertEqual(turned_about((2,) * 30), (30, 30))

    def test_part_j_tells_how_many_parts_are_j_or_more(self):
        for shape in falling_rows(4, 5):
            turned = turned_about(shape, 7)
            self.assertEqual(turned, tuple(sum(part >= j for part in shape) for j in range(1, 8)))

    def test_twice_is_the_kind(self):
        for shape in falling_rows(4, 5):
            if any(shape):
                self.assertEqual(turned_about(turned_about(shape)), kind_of_shape(shape))


if __name__ == "__main__":
    unittest.main()
