import unittest

from threeshapes import errors

FIELDS = """
BadPrime(prime), BadTable(what), BadShape(what), BadKind(what), BadMany(many), BadMore(more), BadText(index), Flat(),
NotInvertible(), BadFilling(what), NoRow(row), NoFilling(), BadTriangle(what), NoPlace(s, j), BadStretch(by),
UnlikeTriangles(), BadSize(size), BadTriple(what), NotTight(over), NoPart(part), NoLetter(letter), TooLong(),
WrongShape(), UnlikeSizes(), BadStrands(index), TooLarge(most), BadMember(), BadNumber(), BadExponent(),
BadWithin(what), NoWithin(), BadPoly(), TooMany(most), BadChain(), BadFactors(what, index), BadBeginnings(index),
BadTables(index), BadPlace(), NoWay(), Idle(index), Unreached(), BadRow(row), BadRises(), FullTable(),
NotWoven(many, place), BadBook(what, place), BadSayings(index), BadPool(index), BadWhat(), Shut(place), NothingDone(),
BadDeed(index)
"""


def listed():
    """The names of the error classes with the names of their fields."""
    for entry in " ".join(FIELDS.split()).split("), "):
        name, fields = entry.rstrip(")").split("(")
        yield name, [field for field in fields.split(", ") if field]


class ErrorsTest(unittest.TestCase):
    def test_the_first_error_stands_straight_under_value_error(self):
        self.assertEqual(errors.TableError.__bases__, (ValueError,))

    def test_every_error_stands_straight_under_it(self):
        self.assertEqual(len(list(listed())), 52)
        for name, _ in listed():
            error = getattr(errors, name)
            self.assertEqual(error.__bases__, (errors.TableError,), name)
            self.assertEqual(error.__module__, "threeshapes.errors", name)
            self.assertEqual(error.__name__, name)

    def test_every_error_keeps_its_fields_in_their_order(self):
        for name, fields in listed():
            values = [object() for _ in fields]
            by_place = getattr(errors, name)(*values)
            by_name = getattr(errors, name)(**dict(zip(fields, values)))
            for error in (by_place, by_name):
                self.assertEqual(vars(error), dict(zip(fields, values)), name)

    def test_nothing_else_is_an_error(self):
        classes = [name for name, thing in vars(errors).items() if isinstance(thing, type)]
        self.assertEqual(sorted(classes), sorted(["TableError"] + [name for name, _ in listed()]))

    def test_an_error_can_be_caught_as_a_value_error(self):
        with self.assertRaises(ValueError):
            raise errors.Flat()


if __name__ == "__main__":
    unittest.main()
