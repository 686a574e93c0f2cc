import itertools
import random
import unittest

from tests.plain import BIG, PlainCase, falling_rows
from tests.plainbooks import BOOKS, drawn_book
from threeshapes.books import Book
from threeshapes.booktext import book_text, read_book
from threeshapes.errors import BadText

EXAMPLE = "2\n1 0; 1 1, 2 0\nany; none"


def plain_text(length, factors, beginnings):
    """The three rows, as the document tells them."""
    rows = [str(length)]
    for entries in (factors, beginnings):
        words = []
        for entry in entries:
            if entry is None:
                words.append("any")
            elif not entry:
                words.append("none")
            else:
                shapes = sorted({tuple(shape) for shape in entry})
                words.append(", ".join(" ".join(str(part) for part in shape) for shape in shapes))
        rows.append("; ".join(words))
    return rows[0] + "\n" + rows[1] + "\n" + rows[2]


class BookTextTest(PlainCase):
    def test_example(self):
        book = read_book(EXAMPLE)
        self.assertTrue(book == Book(2, (((1, 0),), ((1, 1), (2, 0))), (None, ())))
        self.assertEqual(book_text(book), EXAMPLE)
        self.assertEqual(book_text(book=read_book(text=EXAMPLE)), EXAMPLE)

    def test_many_books(self):
        chance = random.Random(1201)
        for given in BOOKS + tuple(drawn_book(chance, nones=4) for _ in range(80)):
            book = Book(*given)
            text = book_text(book)
            self.assertEqual(text, plain_text(*given))
            self.assertTrue(read_book(text) == book)
            self.assertEqual(book_text(read_book(text)), text)
            self.assertTrue(book == Book(*given))

    def test_lots_of_many(self):
        given = (3, (tuple(falling_rows(3, 3)), None), (None, tuple(falling_rows(3, 6))))
        self.assertTrue(read_book(plain_text(*given)) == Book(*given))
        lot = ", ".join(["1"] * 100)
        self.assertTrue(read_book("1\n" + lot + "\n" + lot) == Book(1, (((1,),),), (((1,),),)))

    def test_any_order_and_doubles(self):
        self.assertTrue(read_book("2\n2 0, 1 1, 2 0\n6 6, 0 0, 6 5") == Book(2, (((1, 1), (2, 0)),), (((0, 0), (6, 5), (6, 6)),)))
        shapes = ("1 0 0", "0 0 0", "3 3 3", "2 1 0")
        for order in itertools.permutations(shapes):
            self.assertEqual(book_text(read_book("3\n" + ", ".join(order) + "\nany")), "3\n0 0 0, 1 0 0, 2 1 0, 3 3 3\nany")


class BadTextsTest(PlainCase):
    def test_no_string(self):
        for wrong in (None, 7, True, b"1\nany\nany", ["1", "any", "any"], ("1\nany\nany",)):
            self.assert_refused(BadText, (0,), read_book, wrong)

    def test_row_0(self):
        for row in ("", "0", "4", "-1", "01", "+1", " 1", "1 ", "1 0", "any", "a", "1.0", "12", str(BIG), "\t", "\xb2", "\u0661"):
            for rest in ("\nany\nany", "", "\nany", "\nno\nno\nno"):
                self.assert_refused(BadText, (0,), read_book, row + rest)

    def test_rows_that_are_missing(self):
        for length in "123":
            self.assert_refused(BadText, (1,), read_book, length)
            self.assert_refused(BadText, (2,), read_book, length + "\nany")
            self.assert_refused(BadText, (1,), read_book, length + "\n")
            self.assert_refused(BadText, (2,), read_book, length + "\nany\n")

    def test_entries_that_are_not_as_told(self):
        for wrong in ("", " ", "Any", "any ", " any", "any,", "none, 1 0", "1 0, none", "any, 1 0", "1 0,2 0", "1 0 ,2 0",
                      "1 0,  2 0", "1 0, ", ", 1 0", "1  0", " 1 0", "1 0 ", "01 0", "1 -0", "-1 -1", "+1 0", "1,0", "1;0", "x",
                      "1 0, 0 1", "0 1", "nonenone", "None", "1 0\t", "1 0\r", "1 0, 1 0 0", "1", "1 0 0", "1 0 0 0 0", "7 0",
                      str(BIG) + " 0", "1" * 401 + " 0", ", ".join(["1 0"] * 101)):
            for at in range(3):
                entries = ["any"] * at + [wrong] + ["none"] * (2 - at)
                self.assert_refused(BadText, (1,), read_book, "2\n" + "; ".join(entries) + "\n" + "; ".join(entries))
                self.assert_refused(BadText, (2,), read_book, "2\nany; any; any\n" + "; ".join(entries))
        for wrong in ("any;any", "any ; any", "any;  any", "; any", "any; ", "any,any", "any; any;", "any any"):
            self.assert_refused(BadText, (1,), read_book, "1\n" + wrong + "\nany; any")
            self.assert_refused(BadText, (2,), read_book, "1\nany; any\n" + wrong)

    def test_what_a_book_would_refuse(self):
        self.assert_refused(BadText, (1,), read_book, "1\n4\nany")
        self.assertTrue(read_book("1\n3\n4") == Book(1, (((3,),),), (((4,),),)))
        self.assert_refused(BadText, (2,), read_book, "1\n3\n7")
        self.assert_refused(BadText, (1,), read_book, "3\n1 0\nany")
        self.assert_refused(BadText, (2,), read_book, "3\nany\n1 0 0 0")
        five = "; ".join(["any"] * 5)
        self.assert_refused(BadText, (1,), read_book, "1\n" + five + "\n" + five)
        four = "; ".join(["any"] * 4)
        self.assert_refused(BadText, (2,), read_book, "1\n" + four + "\n" + five)
        self.assert_refused(BadText, (2,), read_book, "1\n" + four + "\nany")
        self.assert_refused(BadText, (2,), read_book, "1\nany\nany; any")
        self.assertTrue(read_book("1\n" + four + "\n" + four) == Book(1, (None,) * 4, (None,) * 4))

    def test_a_fourth_row(self):
        for rest in ("\n", "\nany", "\n\n", "\nany\nany", "\n1\nany\nany"):
            self.assert_refused(BadText, (3,), read_book, EXAMPLE + rest)
        self.assert_refused(BadText, (2,), read_book, "1\nany\nno\nany")
        self.assert_refused(BadText, (1,), read_book, "1\nno\nany\nany")
        self.assert_refused(BadText, (0,), read_book, "0\nany\nany\nany")
        self.assert_refused(BadText, (2,), read_book, "1\nany\n\nany")

    def test_two_wrong_rows(self):
        self.assert_refused(BadText, (1,), read_book, "1\n4\n7")
        self.assert_refused(BadText, (1,), read_book, "1\nno\nno")
        self.assert_refused(BadText, (1,), read_book, "2\n0 1\n")


if __name__ == "__main__":
    unittest.main()
