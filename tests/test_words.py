"""The words of rows: names, numbers and forms, as points 5, 7 and 27 tell them."""

import unittest

from trussyard.words import is_name, many_of, number_of, read_row

FORMS = ("pin NAME NUMBER", "pin NAME NUMBER fixed", "lay WORD MANY", "end")
NOT_NAMES = ("", "A", "aB", "a_", "a-", "a.", "a\t", "a\r", "a\n", "\u00e4", "\u00df", "\u0661", "\u00b2", "\uff41")


class WordsTest(unittest.TestCase):
    def test_rows_that_fit(self):
        for row, values in [
            ("pin a 1/2", ["pin", "a", (1, 2)]), ("pin pin -3 fixed", ["pin", "pin", (-3, 1), "fixed"]),
            ("pin 0 0", ["pin", "0", (0, 1)]), ("lay end 60", ["lay", "end", 60]), ("end", ["end"]),
            ("pin " + "z9" * 10 + " 1", ["pin", "z9" * 10, (1, 1)]), ("lay " + "a" * 41 + " 1", ["lay", "a" * 41, 1]),
        ]:
            self.assertEqual(read_row(FORMS, row), values)

    def test_rows_that_fit_none(self):
        for row in ("", " ", "end ", " end", "END", "en", "end\t", "end\r", "end end", "pin", "pin a", "pin a 1 2",
                    "pin a  1", "pin  1", "pin a 1 ", "pin\ta\t1", "pin a\t1", "pin a 1 fixed ", "pin a 1 fixed fixed",
                    "pin a fixed", "pin A 1", "pin " + "a" * 21 + " 1", "pin a 2/4", "pin a +1", "pin a 01", "pin a -0",
                    "pin a " + "1" * 61, "lay a 0", "lay a 61", "lay a -1", "lay a 1/2", "Pin a 1", "pin NAME 1",
                    "bar a 1", "NAME", "pin a NUMBER"):
            with self.subTest(row):
                self.assertIsNone(read_row(FORMS, row))
        self.assertIsNone(read_row((), "end"))

    def test_names(self):
        for word in ("a", "z", "0", "9", "az09", "a" * 20, "a" * 21, "7" * 200):
            self.assertIs(is_name(word), True)
        for word in NOT_NAMES:
            with self.subTest(word):
                self.assertIs(is_name(word), False)
                self.assertIsNone(read_row(("NAME",), word))
                self.assertIsNone(read_row(("WORD",), word))

    def test_lengths_of_names(self):
        for many in (1, 20, 21, 200):
            word = "a" * many
            self.assertEqual(read_row(("NAME",), word), [word] if many <= 20 else None)
            self.assertEqual(read_row(("WORD",), word), [word])

    def test_numbers(self):
        for word, due in [("0", (0, 1)), ("-7", (-7, 1)), ("3/2", (3, 2)), ("9" * 60, (10 ** 60 - 1, 1))]:
            self.assertEqual(number_of(word), due)
        for word in ("", "-0", "01", "+1", "2/4", "3/1", "1/-2", "1/0", "1.5", "x", "1\r", "\u0661", "9" * 61,
                     "1/" + "9" * 61):
            self.assertIsNone(number_of(word))

    def test_many(self):
        for many in range(1, 61):
            self.assertEqual(many_of(str(many)), many)
        for word in ("", "0", "61", "01", "-1", "+1", "1/2", "60/1", "100", "1 ", "x", "\u0661", "1" * 61):
            self.assertIsNone(many_of(word))


if __name__ == "__main__":
    unittest.main()
