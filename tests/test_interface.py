"""The names, parameters and defaults of the interface, and the file in which each thing is defined."""

import importlib
import inspect
import unittest

FUNCTIONS = {
    "numbers": """
        is_whole(thing, low=None, high=None)
        is_sequence(thing)
        check_prime(thing)
        prime_power(prime, exponent)
        exponent_of(prime, number)
    """,
    "tables": """
        check_table(thing, sort='any')
        times_table(one, other)
        identity_table(size)
        diagonal_of(numbers)
        beside_table(one, other)
        flipped_table(table)
        table_modulo(table, modulus)
        cut_table(table, rows, columns)
        determinant_of(table)
        is_invertible(prime, table)
    """,
    "shapes": """
        check_shape(thing, length=None, most=4)
        check_kind(thing, most=24)
        sum_of_shape(shape)
        weight_of(shape)
        kind_of_shape(shape)
        shape_of_kind(kind, length)
        is_above(one, other)
        turned_about(shape, length=None)
    """,
    "turning": """
        least_exponent(prime, table, many)
        shape_of(prime, table)
        turn_table(prime, table, more=0)
        turned_fault(prime, table, turned, more=0)
        inverse_modulo(prime, table, modulus)
    """,
    "shapetext": """
        shape_text(shape)
        table_text(table)
        read_shape(text)
        read_table(text)
    """,
    "fillings": "filling_of_chain(chain)",
    "listing": """
        all_fillings(before, content, after)
        count_fillings(before, content, after)
        first_filling(before, content, after)
        is_product(before, content, after)
    """,
    "triangles": """
        broken_diamond(rows)
        triangle_of(filling)
        filling_of(triangle)
        stretched_triangle(triangle, by)
        added_triangles(one, other)
        rolled_triangle(triangle)
        mirrored_triangle(triangle)
    """,
    "triples": """
        places_shape(places)
        check_triple(n, triple)
        triple_number(n, triple)
        filled_triples(n, r)
        needful_triples(n)
        turned_triple(n, triple)
    """,
    "bars": """
        bar_over(a, b, c, triple)
        first_bar(a, b, c)
        split_at(a, b, c, triple)
        pieces_of(a, b, c)
    """,
    "productshapes": """
        product_shapes(a, b)
        factor_shapes(a, c)
        greatest_product(a, b)
        least_product(a, b)
        part_range(a, b, part)
        stretched_number(a, b, c, by)
    """,
    "making": """
        diagonal_table(prime, shape)
        letter_table(prime, filling, letter)
        made_chain(prime, filling)
        made_tables(prime, filling)
        product_fault(prime, one, other, filling)
    """,
    "strands": """
        strands_of(filling)
        strand_chain(filling)
        filling_of_strands(before, strands)
    """,
    "backfilling": """
        back_chain(prime, one, other)
        back_filling(prime, one, other)
        strand_shapes(prime, one, other)
        strand_filling(prime, one, other)
    """,
    "following": """
        following_tables(prime, table, filling)
        following_table(prime, table, filling)
        ahead_table(prime, table, filling)
    """,
    "rooms": """
        check_member(room, thing)
        added_member(room, one, other)
        times_member(room, number, member)
        killing_exponent(room, member)
        killed_by(room, exponent)
    """,
    "within": """
        check_within(room, thing)
        made_within(room, members)
        joined_within(room, one, other)
        shared_within(room, one, other)
        times_within(room, number, within)
        facing_within(room, within)
        all_within(room)
    """,
    "kindsofwithin": """
        kind_of_within(room, within)
        rest_kind(room, within)
        chain_of_within(room, within)
        basis_of_within(room, within)
        basis_fault(room, within, basis)
        find_within(room, kind, rest)
    """,
    "leaders": """
        leader_of_table(prime, table)
        led_member(leader, column)
        leader_fault(prime, table, leader)
        within_of_product(prime, one, other)
    """,
    "splitting": "tables_of_within(room, within)",
    "polys": """
        make_poly(numbers)
        poly_plus(one, other)
        poly_minus(one, other)
        poly_times(one, other)
        shift_poly(poly, by)
        p_count(many, taken)
        poly_at(poly, number)
    """,
    "columncounts": """
        columns_of(kind)
        kinds_of_sum(total)
        column_poly(rest, ones, kind)
        within_poly(part, kind)
        map_poly(one, other)
        own_map_poly(kind)
    """,
    "kindproducts": """
        mix_plus(one, other)
        mix_times(one, other)
        product_of_kinds(a, b)
        product_of_columns(columns)
        column_form(kind)
        count_poly(a, b, c)
        chain_poly(kinds, kind)
        within_count(prime, a, b, c)
    """,
    "rowsoffactors": """
        check_factors(factors)
        all_beginnings(factors, after)
        row_way(factors, after)
        shapes_of_row(factors)
        is_row_shape(factors, after)
        ways_of_row(factors, after)
    """,
    "rowbars": "row_bar(factors, after)",
    "tablerows": """
        tables_of_beginnings(prime, factors, beginnings)
        made_row(prime, factors, after)
        made_around(prime, factors, after, place, table)
        row_fault(prime, factors, beginnings, tables)
        read_row(prime, tables)
    """,
    "fewest": "fewest_factors(allowed, after)",
    "woven": """
        is_woven(shape, part)
        unwoven_place(shape, part)
        woven_shapes(shape, many)
        count_woven(shape, many)
    """,
    "rowchains": """
        all_row_chains(shape)
        count_row_chains(shape)
        check_rises(rises, many)
        count_by_rises(shape, rises)
    """,
    "rowsadded": """
        struck_row(table, row)
        first_rows(table, many)
        row_chain(prime, table)
        added_row(prime, table, shape)
        extended_table(prime, table, shape)
        table_with_rows(prime, shapes)
        added_fault(prime, table, shape, row)
        extended_fault(prime, table, shape, longer)
        rows_fault(prime, shapes, table)
    """,
    "rowturning": """
        left_for_rows(prime, table, shapes)
        left_fault(prime, table, shapes, left)
    """,
    "readings": """
        all_readings(book)
        count_readings(book)
        first_reading(book)
        tables_of_book(prime, book)
        come_shapes(book)
        fitting_shapes(book)
        why_shut(book)
    """,
    "mends": """
        check_pool(book, pool)
        find_mends(book, pool)
        find_blocks(book, pool)
        choice_fault(book, pool, choice, what)
    """,
    "booktext": """
        book_text(book)
        read_book(text)
    """,
}

# The generators of the interface, by their names.
GENERATORS = (
    "all_fillings", "all_within", "all_beginnings", "all_row_chains", "all_readings", "find_mends", "find_blocks",
)

# The class, the parameters, the methods and the properties that it defines itself, and whether it has ==.
CLASSES = {
    "turning": (("Turned", "left, shape, right, modulus", (), (), False),),
    "fillings": (("Filling", "before, after, counts", ("letters_in_row(row)",), ("content", "chain"), True),),
    "triangles": (("Triangle", "rows", ("height(s, j)",), ("rims",), True),),
    "bars": (
        ("Broken", "what, ones, others, sums, over", (), (), False),
        ("Bars", "length", ("first_broken(a, b, c)", "all_broken(a, b, c)", "all_tight(a, b, c)"), (), False),
    ),
    "rooms": (("Room", "prime, kind", ("__iter__()",), (), True),),
    "leaders": (("Leader", "room, rows", (), (), False), ("ProductRoom", "leader, within", (), (), False)),
    "rowbars": (("BrokenRow", "what, places, sums, over", (), (), False),),
    "tablerows": (("RowRead", "factors, beginnings", (), (), False),),
    "fewest": (("Fewest", "number, row", (), (), False),),
    "books": (
        ("Book", "length, factors, beginnings", ("without(sayings)", "with_factor(place, lot)",
                                                 "with_beginning(place, lot)", "first_places(many)"), ("sayings",), True),
    ),
    "readings": (
        ("Reading", "factors, beginnings", (), (), False), ("Fitting", "factors, beginnings", (), (), False),
        ("Why", "place, steps", (), (), False),
    ),
    "bench": (
        ("Bench", "book", ("say_factor(place, lot)", "say_beginning(place, lot)", "forget_sayings(sayings)", "fit_lots()",
                           "take_back()", "do_deeds(deeds)", "read_book()", "try_deeds(deeds)"), ("log",), False),
    ),
}


class InterfaceTest(unittest.TestCase):
    def test_functions(self):
        for module, lines in FUNCTIONS.items():
            place = "threeshapes." + module
            for line in lines.split("\n"):
                name, _, parameters = line.strip().partition("(")
                if name:
                    function = getattr(importlib.import_module(place), name)
                    self.assertTrue(inspect.isfunction(function), name)
                    self.assertEqual(function.__module__, place, name)
                    self.assertEqual(str(inspect.signature(function)), "(" + parameters)
                    self.assertIs(inspect.isgeneratorfunction(function), name in GENERATORS, name)

    def test_classes(self):
        for module, classes in CLASSES.items():
            place = "threeshapes." + module
            for name, parameters, methods, properties, has_equality in classes:
                found = getattr(importlib.import_module(place), name)
                self.assertTrue(inspect.isclass(found), name)
                self.assertEqual(found.__module__, place, name)
                self.assertEqual(str(inspect.signature(found)), "(" + parameters + ")", name)
                for line in methods:
                    method, _, rest = line.partition("(")
                    signature = "(self" + (", " if rest != ")" else "") + rest
                    self.assertEqual(str(inspect.signature(vars(found)[method])), signature, line)
                for one in properties:
                    self.assertIsInstance(vars(found)[one], property, one)
                self.assertIs("__eq__" in vars(found), has_equality, name)


if __name__ == "__main__":
    unittest.main()
