"""The names, parameters and defaults of the interface, and the file in which each thing is defined."""

import importlib
import inspect
import unittest

FUNCTIONS = {
    "numbers": """
        is_whole(thing, low=None, high=None)
        is_sequence(thing)
        check_prime(thing)
        prime_power(prime, exponent)
        exponent_of(prime, number)
    """,
    "tables": """
        check_table(thing, sort='any')
        times_table(one, other)
        identity_table(size)
        diagonal_of(numbers)
        beside_table(one, other)
        flipped_table(table)
        table_modulo(table, modulus)
        cut_table(table, rows, columns)
        determinant_of(table)
        is_invertible(prime, table)
    """,
    "shapes": """
        check_shape(thing, length=None, most=4)
        check_kind(thing, most=24)
        sum_of_shape(shape)
        weight_of(shape)
        kind_of_shape(shape)
        shape_of_kind(kind, length)
        is_above(one, other)
        turned_about(shape, length=None)
    """,
    "turning": """
        least_exponent(prime, table, many)
        shape_of(prime, table)
        turn_table(prime, table, more=0)
        turned_fault(prime, table, turned, more=0)
        inverse_modulo(prime, table, modulus)
    """,
    "shapetext": """
        shape_text(shape)
        table_text(table)
        read_shape(text)
        read_table(text)
    """,
}

# The generators of the interface, by their names.
GENERATORS = ()

# The class, the parameters, the methods and the properties that it defines itself, and whether it has ==.
CLASSES = {
    "turning": (("Turned", "left, shape, right, modulus", (), (), False),),
}


class InterfaceTest(unittest.TestCase):
    def test_functions(self):
        for module, lines in FUNCTIONS.items():
            place = "threeshapes." + module
            for line in lines.split("\n"):
                name, _, parameters = line.strip().partition("(")
                if name:
                    function = getattr(importlib.import_module(place), name)
                    self.assertTrue(inspect.isfunction(function), name)
                    self.assertEqual(function.__module__, place, name)
                    self.assertEqual(str(inspect.signature(function)), "(" + parameters)
                    self.assertIs(inspect.isgeneratorfunction(function), name in GENERATORS, name)

    def test_classes(self):
        for module, classes in CLASSES.items():
            place = "threeshapes." + module
            for name, parameters, methods, properties, has_equality in classes:
                found = getattr(importlib.import_module(place), name)
                self.assertTrue(inspect.isclass(found), name)
                self.assertEqual(found.__module__, place, name)
                self.assertEqual(str(inspect.signature(found)), "(" + parameters + ")", name)
                for line in methods:
                    method, _, rest = line.partition("(")
                    signature = "(self" + (", " if rest != ")" else "") + rest
                    self.assertEqual(str(inspect.signature(vars(found)[method])), signature, line)
                for one in properties:
                    self.assertIsInstance(vars(found)[one], property, one)
                self.assertIs("__eq__" in vars(found), has_equality, name)


if __name__ == "__main__":
    unittest.main()
