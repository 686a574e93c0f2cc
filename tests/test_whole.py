"""What the document promises over the whole program: names, places, results, and what is passed in."""

import copy
import importlib
import inspect
import unittest

from tests.plain import PlainCase
from tests.test_interface import CLASSES, FUNCTIONS
from threeshapes.bars import Bars
from threeshapes.bench import Bench
from threeshapes.books import Book
from threeshapes.fillings import Filling
from threeshapes.leaders import leader_of_table
from threeshapes.readings import all_readings
from threeshapes.rooms import Room
from threeshapes.triangles import Triangle, triangle_of
from threeshapes.turning import turn_table

FILLING = Filling((2, 1, 0), (3, 2, 1), ((1, 0, 1), (1, 0), (0,)))
TRIANGLE = triangle_of(FILLING)
ROOM = Room(2, (2, 1))
WITHIN = [[0, 0], [2, 1]]
TABLE = [[2, 1], [0, 2]]
A, C = [2, 1, 0], [3, 2, 1]
TRIPLE = [[1], [1], [1]]
FACTORS, WAY = [[1, 0], [1, 0], [2, 0]], [[1, 0], [1, 1], [3, 1]]
BOOK = Book(2, (((1, 0),), ((2, 0), (1, 1))), (None, ((2, 2), (3, 0), (1, 1))))
SHUT = Book(2, (((1, 0),), ((2, 0), (1, 1))), (None, ((2, 2), (1, 1))))
POOL = [["factor", 0], ["factor", 1], ["beginning", 1]]
MIX = (((1,), (2,)), ((2,), (0, 1)))

# One call of each function of the interface; what is passed as a list shows whether it is changed.
CALLS = {
    "is_whole": (3, 1, 5), "is_sequence": ([1],), "check_prime": (3,), "prime_power": (3, 4), "exponent_of": (3, 54),
    "check_table": (TABLE, "long"), "times_table": (TABLE, TABLE), "identity_table": (2,), "diagonal_of": ([1, 2],),
    "beside_table": (TABLE, TABLE), "flipped_table": (TABLE,), "table_modulo": (TABLE, 2),
    "cut_table": (TABLE, [0], [1, 0]), "determinant_of": (TABLE,), "is_invertible": (3, TABLE),
    "check_shape": (A, 3, 5), "check_kind": ([2, 1], 3), "sum_of_shape": (A,), "weight_of": (A,), "kind_of_shape": (A,),
    "shape_of_kind": ([2, 1], 3), "is_above": ([3], A), "turned_about": (A, 4),
    "least_exponent": (2, TABLE, 1), "shape_of": (2, TABLE), "turn_table": (2, TABLE, 1),
    "turned_fault": (2, TABLE, turn_table(2, TABLE, 1), 1), "inverse_modulo": (3, TABLE, 9),
    "shape_text": (A,), "table_text": (TABLE,), "read_shape": ("2 1 0",), "read_table": ("2 1; 0 2",),
    "filling_of_chain": ([[1, 0], [2, 1]],), "all_fillings": (A, A, C), "count_fillings": (A, [2, 1], C),
    "first_filling": (A, A, C), "is_product": (A, A, C), "broken_diamond": ([[0, 1, 3], [1, 2], [2]],),
    "triangle_of": (FILLING,), "filling_of": (TRIANGLE,), "stretched_triangle": (TRIANGLE, 3),
    "added_triangles": (TRIANGLE, TRIANGLE), "rolled_triangle": (TRIANGLE,), "mirrored_triangle": (TRIANGLE,),
    "places_shape": ([1, 3],), "check_triple": (3, TRIPLE), "triple_number": (3, TRIPLE), "filled_triples": (4, 2),
    "needful_triples": (3,), "turned_triple": (3, TRIPLE), "bar_over": (A, A, [4, 1, 1], TRIPLE),
    "first_bar": (A, A, [5, 1, 0]), "split_at": (A, A, [4, 1, 1], TRIPLE), "pieces_of": (A, A, [4, 1, 1]),
    "product_shapes": (A, [1, 0, 0]), "factor_shapes": (A, C), "greatest_product": (A, [1, 0, 0]),
    "least_product": (A, [1, 0, 0]), "part_range": (A, [1, 0, 0], 2), "stretched_number": (A, A, C, 2),
    "diagonal_table": (3, A), "letter_table": (3, FILLING, 2), "made_chain": (3, FILLING), "made_tables": (3, FILLING),
    "product_fault": (3, TABLE, TABLE, FILLING), "strands_of": (FILLING,), "strand_chain": (FILLING,),
    "filling_of_strands": ([1, 0], [[1], [2]]), "back_chain": (2, [[2, 0], [0, 1]], TABLE),
    "back_filling": (2, [[2, 0], [0, 1]], TABLE), "strand_shapes": (2, [[2, 0], [0, 1]], TABLE),
    "strand_filling": (2, [[2, 0], [0, 1]], TABLE),
    "following_tables": (2, [[4, 0, 0], [0, 2, 0], [0, 0, 1]], FILLING),
    "following_table": (2, [[4, 0, 0], [0, 2, 0], [0, 0, 1]], FILLING),
    "ahead_table": (2, [[4, 0, 0], [0, 2, 0], [0, 0, 1]], FILLING),
    "check_member": (ROOM, [3, 1]), "added_member": (ROOM, [3, 1], [2, 1]), "times_member": (ROOM, 3, [3, 1]),
    "killing_exponent": (ROOM, [2, 1]), "killed_by": (ROOM, 1), "check_within": (ROOM, WITHIN),
    "made_within": (ROOM, [[2, 1]]), "joined_within": (ROOM, WITHIN, [[0, 0], [0, 1]]),
    "shared_within": (ROOM, WITHIN, [[0, 0], [0, 1]]), "times_within": (ROOM, 2, WITHIN),
    "facing_within": (ROOM, WITHIN), "all_within": (ROOM,), "kind_of_within": (ROOM, WITHIN),
    "rest_kind": (ROOM, WITHIN), "chain_of_within": (ROOM, WITHIN), "basis_of_within": (ROOM, WITHIN),
    "basis_fault": (ROOM, WITHIN, [[2, 1]]), "find_within": (ROOM, [1], [2]), "leader_of_table": (2, TABLE),
    "led_member": (leader_of_table(2, TABLE), [1, 3]), "leader_fault": (2, TABLE, leader_of_table(2, TABLE)),
    "within_of_product": (2, TABLE, [[1, 0, 2], [0, 1, 1]]), "tables_of_within": (ROOM, WITHIN),
    "make_poly": ([1, 2, 0],), "poly_plus": ((1, 2), (0, 1)), "poly_minus": ((1, 2), (0, 1)),
    "poly_times": ((1, 2), (0, 1)), "shift_poly": ((1, 2), 3), "p_count": (4, 2), "poly_at": ((1, 2), 5),
    "columns_of": ([3, 1],), "kinds_of_sum": (4,), "column_poly": ([2, 1], 2, [3, 2]), "within_poly": ([1], [2, 1]),
    "map_poly": ([2], [2, 1]), "own_map_poly": ([2, 1],), "mix_plus": (MIX, MIX[:1]), "mix_times": (MIX, MIX[:1]),
    "product_of_kinds": ([2], [1]), "product_of_columns": ([2, 1],), "column_form": ([2, 1],),
    "count_poly": ([2], [1], [2, 1]), "chain_poly": ([[1], [2]], [2, 1]), "within_count": (3, [2], [1], [2, 1]),
    "check_factors": (FACTORS,), "all_beginnings": (FACTORS, [3, 1]), "row_way": (FACTORS, [3, 1]),
    "shapes_of_row": (FACTORS,), "is_row_shape": (FACTORS, [3, 1]), "ways_of_row": (FACTORS, [3, 1]),
    "row_bar": ([[1, 0], [1, 0], [4, 0]], [3, 3]), "tables_of_beginnings": (2, FACTORS, WAY),
    "made_row": (2, FACTORS, [3, 1]), "made_around": (2, FACTORS, [3, 1], 1, [[2, 0], [0, 1]]),
    "row_fault": (2, FACTORS, WAY, [TABLE, TABLE, TABLE]), "read_row": (2, [TABLE, [[2, 0], [0, 1]]]),
    "fewest_factors": ([[2, 0], [1, 0]], [2, 1]), "is_woven": (A, [1, 1]), "unwoven_place": (A, [3, 1]),
    "woven_shapes": (A, 2), "count_woven": (A, 2), "all_row_chains": (A,), "count_row_chains": (A,),
    "check_rises": ([1, 2, 0], 3), "count_by_rises": (A, [1, 1, 1]), "struck_row": (TABLE, 1), "first_rows": (TABLE, 1),
    "row_chain": (2, TABLE), "added_row": (2, [[2, 0, 0]], [2, 1]), "extended_table": (2, [[2, 0, 0]], [2, 1]),
    "table_with_rows": (2, [[1], [2, 1]]), "added_fault": (2, [[2, 0, 0]], [2, 1], [1, 1, 1]),
    "extended_fault": (2, [[2, 0, 0]], [2, 1], [[2, 0, 0], [0, 4, 0]]), "rows_fault": (2, [[1], [2, 1]], TABLE),
    "left_for_rows": (2, [[2, 0], [0, 4]], [[2], [2, 1]]), "left_fault": (2, [[2, 0], [0, 4]], [[2], [2, 1]], TABLE),
    "all_readings": (BOOK,), "count_readings": (BOOK,), "first_reading": (BOOK,), "tables_of_book": (2, BOOK),
    "come_shapes": (BOOK,), "fitting_shapes": (BOOK,), "why_shut": (SHUT,), "check_pool": (SHUT, POOL),
    "find_mends": (SHUT, POOL), "find_blocks": (SHUT, POOL), "choice_fault": (SHUT, POOL, [0, 1], "mend"),
    "book_text": (BOOK,), "read_book": ("2\n1 0; 1 1, 2 0\nany; none",),
}

# An object of each class that refuses things, and calls of its methods.
OBJECTS = {
    "Filling": ([1, 0], [2, 1], [[1, 1], [0]]), "Triangle": ([[0, 2, 3, 3], [3, 4, 5], [5, 6], [6]],), "Bars": (3,), "Room": (2, [2, 1]),
    "Book": (2, [[[1, 0]], None], [None, [[2, 1], [1, 1]]]), "Bench": (BOOK,),
}
METHODS = (
    (FILLING, "letters_in_row", (3,)), (TRIANGLE, "height", (1, 2)), (Bars(3), "first_broken", (A, A, [5, 1, 0])),
    (Bars(3), "all_broken", (A, A, [5, 1, 0])), (Bars(3), "all_tight", (A, A, [4, 1, 1])),
    (BOOK, "without", ([["factor", 0]],)), (BOOK, "with_factor", (1, [[1, 1], [1, 0]])),
    (BOOK, "with_beginning", (0, [[1, 1], [1, 0]])), (BOOK, "first_places", (1,)), (Bench(BOOK), "read_book", ()),
    (Bench(BOOK), "try_deeds", ([["factor", 1, [[1, 1]]], ["forget", [["factor", 0]]]],)),
)
DEEDS = (("say_factor", (1, [[1, 1]])), ("say_beginning", (0, [[1, 0]])), ("forget_sayings", ([["factor", 0]],)),
         ("fit_lots", ()), ("do_deeds", ([["fit"], ["factor", 0, None]],)))


def told(thing):
    """What an object says, in a form that can be compared."""
    if inspect.isgenerator(thing):
        return [told(item) for item in thing]
    if isinstance(thing, (tuple, list)):
        return (thing.__class__.__name__, [told(item) for item in thing])
    if hasattr(thing, "__dict__"):
        return (thing.__class__.__name__, {name: told(value) for name, value in vars(thing).items()})
    return (thing.__class__.__name__, thing)


def names_of(function):
    return list(inspect.signature(function).parameters)


def each_function():
    for module, lines in FUNCTIONS.items():
        for line in lines.split("\n"):
            name = line.strip().partition("(")[0]
            if name:
                yield getattr(importlib.import_module("threeshapes." + module), name)


def each_class():
    for module, classes in CLASSES.items():
        for entry in classes:
            yield getattr(importlib.import_module("threeshapes." + module), entry[0]), entry


class CallsTest(PlainCase):
    def assert_call(self, function, given):
        """By name and by place it answers alike, it gives tuples alone, and nothing that is passed is changed."""
        before = copy.deepcopy(given)
        by_place = told(function(*given))
        self.assertEqual(told(given), told(before))
        self.assertEqual(told(function(**dict(zip(names_of(function), given)))), by_place)
        self.assertEqual(told(given), told(before))
        self.assertEqual(told(function(*given)), by_place)
        return by_place

    def test_functions(self):
        done = []
        for function in each_function():
            given = CALLS[function.__name__]
            self.assertEqual(len(names_of(function)), len(given), function.__name__)
            with self.subTest(function.__name__):
                found = self.assert_call(function, given)
                if not inspect.isgeneratorfunction(function):
                    self.assertNotIn("'list'", repr(found))
            done.append(function.__name__)
        self.assertEqual(sorted(done), sorted(CALLS))

    def test_tuples_instead_of_lists(self):
        for function in each_function():
            given = CALLS[function.__name__]
            tuples = tuple(tupled(thing) for thing in given)
            with self.subTest(function.__name__):
                self.assertEqual(told(function(*tuples)), told(function(*given)))

    def test_constructors(self):
        for found, entry in each_class():
            if found.__name__ in OBJECTS:
                self.assert_call(found, OBJECTS[found.__name__])

    def test_methods(self):
        for thing, name, given in METHODS:
            before = told(thing)
            self.assert_call(getattr(thing, name), given)
            self.assertEqual(told(thing), before)

    def test_deeds(self):
        for name, given in DEEDS:
            by_place, by_name = Bench(BOOK), Bench(BOOK)
            before = copy.deepcopy(given)
            self.assertIsNone(getattr(by_place, name)(*given))
            self.assertIsNone(getattr(by_name, name)(**dict(zip(names_of(getattr(by_name, name)), given))))
            self.assertEqual(told(by_place), told(by_name))
            self.assertEqual(given, before)
        self.assertTrue(BOOK == Book(2, (((1, 0),), ((2, 0), (1, 1))), (None, ((2, 2), (3, 0), (1, 1)))))


def tupled(thing):
    return tuple(tupled(item) for item in thing) if isinstance(thing, list) else thing


class ClassesTest(PlainCase):
    def test_results_keep_what_they_are_given(self):
        results = 0
        for found, entry in each_class():
            if found.__name__ not in OBJECTS:
                names = entry[1].split(", ")
                values = [object() for _ in names]
                for one in (found(*values), found(**dict(zip(names, values)))):
                    self.assertEqual(vars(one), dict(zip(names, values)))
                self.assertFalse(found(*values) == found(*values))
                self.assertIs(found.__eq__, object.__eq__)
                self.assertEqual(found.__bases__, (object,))
                results += 1
        self.assertEqual(results, 10)

    def test_equality(self):
        for found, entry in each_class():
            if found.__name__ in OBJECTS:
                given = OBJECTS[found.__name__]
                one, other = found(*given), found(*tuple(tupled(thing) for thing in given))
                self.assertIs(one == other, entry[4])
                self.assertTrue(one == one)
        unlike = [FILLING, TRIANGLE, ROOM, BOOK, Bars(3), Bench(BOOK), list(all_readings(BOOK))[0], 1, None]
        for at, one in enumerate(unlike):
            for place, other in enumerate(unlike):
                self.assertIs(one == other, at == place)

    def test_attributes_are_set_when_an_object_is_created(self):
        for thing, names in ((FILLING, "before after counts"), (TRIANGLE, "rows"), (Bars(2), "length triples"),
                             (ROOM, "prime kind size members"), (BOOK, "length factors beginnings"), (Bench(BOOK), "book")):
            for name in names.split():
                self.assertIn(name, vars(thing))
        self.assertEqual(Triangle(((0, 1), (1,))).rows, ((0, 1), (1,)))


if __name__ == "__main__":
    unittest.main()
