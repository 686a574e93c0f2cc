import random
import unittest

from tests.plain import BIG, PlainCase, falling_rows
from threeshapes.errors import BadText
from threeshapes.shapetext import read_shape, read_table, shape_text, table_text

NO_TEXTS = (None, 7, b"1", ["1"], ("1", "0"), True)
NO_NUMBERS = ("", "-", "00", "01", "-0", "-01", "+1", "1.0", "1_0", "a", "1a", "\n", "1\n", "\t1", "--1", "1-", "0x1",
              "\u0661", "\u00b2", "1" * 401, "-" + "1" * 401, "1,", ";", "1;")


class TextOfShapesTest(PlainCase):
    def test_shapes_as_texts(self):
        self.assertEqual(shape_text((2, 1, 0)), "2 1 0")
        self.assertEqual(shape_text([0]), "0")
        self.assertEqual(shape_text((BIG, 10)), str(BIG) + " 10")
        self.assertEqual(shape_text((1,) * 24), " ".join("1" * 24))

    def test_texts_are_read_back(self):
        for shape in falling_rows(1, 12) + falling_rows(2, 11) + falling_rows(4, 3):
            self.assertEqual(read_shape(shape_text(shape)), shape)
        great = (10 ** 400 - 1, BIG, BIG, 0)
        self.assertEqual(read_shape(shape_text(great)), great)
        self.assert_tuples(read_shape("3 2"))

    def test_what_is_no_string(self):
        for thing in NO_TEXTS:
            self.assert_refused(BadText, (0,), read_shape, thing)

    def test_words_that_are_no_numbers(self):
        for word in NO_NUMBERS + ("-1",):
            self.assert_refused(BadText, (0,), read_shape, word)
            self.assert_refused(BadText, (1,), read_shape, "5 " + word)
            self.assert_refused(BadText, (2,), read_shape, "5 4 " + word + " 1")

    def test_blanks_make_empty_words(self):
        self.assert_refused(BadText, (0,), read_shape, "")
        self.assert_refused(BadText, (0,), read_shape, " ")
        self.assert_refused(BadText, (0,), read_shape, " 1")
        self.assert_refused(BadText, (1,), read_shape, "1 ")
        self.assert_refused(BadText, (1,), read_shape, "2  1")

    def test_words_above_the_word_before(self):
        self.assert_refused(BadText, (1,), read_shape, "1 2")
        self.assert_refused(BadText, (2,), read_shape, "3 1 2 x")
        self.assert_refused(BadText, (3,), read_shape, "9 9 8 10")

    def test_more_than_four_words(self):
        self.assert_refused(BadText, (4,), read_shape, "1 1 1 1 1")
        self.assert_refused(BadText, (4,), read_shape, "1 1 1 1 x y z")
        self.assert_refused(BadText, (4,), read_shape, "1 1 1 1 ")
        self.assert_refused(BadText, (3,), read_shape, "1 1 1 2 1")
        self.assert_refused(BadText, (0,), read_shape, "x 1 1 1 1")


class TextOfTablesTest(PlainCase):
    def test_tables_as_texts(self):
        self.assertEqual(table_text(((1, 2), (0, -4))), "1 2; 0 -4")
        self.assertEqual(table_text([[-BIG]]), "-" + str(BIG))

    def test_texts_are_read_back(self):
        chance = random.Random(4)
        for rows in range(1, 9):
            for columns in range(1, 9):
                size = chance.choice((1, 12, BIG, 10 ** 400 - 1))
                table = tuple(tuple(chance.randint(-size, size) for _ in range(columns)) for _ in range(rows))
                self.assertEqual(read_table(table_text(table)), table)
        self.assertEqual(read_table("0"), ((0,),))
        self.assertEqual(read_table("-10"), ((-10,),))
        self.assert_tuples(read_table("1 2; 3 4"))

    def test_what_is_no_string(self):
        for thing in NO_TEXTS:
            self.assert_refused(BadText, (0,), read_table, thing)

    def test_rows_with_words_that_are_no_numbers(self):
        for word in NO_NUMBERS:
            self.assert_refused(BadText, (0,), read_table, word)
            self.assert_refused(BadText, (0,), read_table, "1 " + word)
            self.assert_refused(BadText, (1,), read_table, "1 2; 1 " + word)

    def test_separators(self):
        for text, index in (("", 0), ("1;2", 0), ("1 ;2", 0), ("1; ", 1), ("1 ; 2", 0), ("1;  2", 1), ("1;\n2", 0),
                            ("; 1", 0), ("1; ; 1", 1), (" 1", 0), ("1 2; 3 4 ", 1)):
            self.assert_refused(BadText, (index,), read_table, text)

    def test_unlike_rows(self):
        self.assert_refused(BadText, (1,), read_table, "1 2; 3")
        self.assert_refused(BadText, (2,), read_table, "1; 2; 3 4")
        self.assert_refused(BadText, (1,), read_table, "1; 2 3; x")

    def test_too_many_words_or_rows(self):
        nine = " ".join("1" * 9)
        self.assertEqual(read_table(" ".join("1" * 8)), ((1,) * 8,))
        self.assert_refused(BadText, (0,), read_table, nine)
        self.assert_refused(BadText, (0,), read_table, nine + "; " + nine)
        self.assert_refused(BadText, (8,), read_table, "; ".join("1" * 9))
        self.assert_refused(BadText, (8,), read_table, "; ".join("1" * 8 + "xx"))
        self.assert_refused(BadText, (3,), read_table, "; ".join("111x11111"))


if __name__ == "__main__":
    unittest.main()
