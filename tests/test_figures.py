"""Point 5: the texts of numbers."""

import inspect
import unittest

from trussyard.errors import NoText
from trussyard.figures import read_ratio, show_ratio
from trussyard.ratios import ratio_of

NINES = "9" * 60
TENS = "1" + "0" * 59
TEXTS = [
    ("0", (0, 1)), ("1", (1, 1)), ("-1", (-1, 1)), ("7", (7, 1)), ("10", (10, 1)), ("-10", (-10, 1)),
    ("1234567890", (1234567890, 1)), ("-1234567890", (-1234567890, 1)), ("1/2", (1, 2)), ("-1/2", (-1, 2)),
    ("3/2", (3, 2)), ("-20/7", (-20, 7)), ("1/10", (1, 10)), ("100/3", (100, 3)), ("-1/100", (-1, 100)),
    (NINES, (10 ** 60 - 1, 1)), ("-" + NINES, (1 - 10 ** 60, 1)), (TENS, (10 ** 59, 1)),
    ("1/" + NINES, (1, 10 ** 60 - 1)), ("-1/" + TENS, (-1, 10 ** 59)),
    (NINES + "/" + TENS, (10 ** 60 - 1, 10 ** 59)), ("-" + NINES + "/" + TENS, (1 - 10 ** 60, 10 ** 59)),
    ("-" + TENS + "/" + NINES, (-(10 ** 59), 10 ** 60 - 1)),
]
NO_TEXTS = [
    # noughts and signs
    "-0", "00", "01", "-01", "007", "+1", "+0", "--1", "-+1", "1-", "0-", "-",
    # terms that are not the lowest, and bottoms that aren't written
    "2/4", "-2/4", "4/2", "3/1", "-3/1", "0/1", "0/2", "-0/1", "1/1", "1/0", "0/0", "-1/0", "5/5", "1/00",
    # signs and noughts in broken numbers
    "1/-2", "-1/-2", "1/+2", "+1/2", "01/2", "1/02", "-0/2", "00/3", "-01/2", "1/2-",
    # parts missing or too many
    "", "/", "1/", "/2", "-/2", "1/-", "-/-", "1/2/3", "1//2", "/1/2", "1/2/", "//",
    # blanks and line ends
    " 1", "1 ", " ", "1 2", "- 1", "1 /2", "1/ 2", "1/2 ", " 1/2", "1\n", "\n1", "\n", "1/2\n", "1\n/2", "1/\n2",
    "\t1", "1\t", "1\r", "1\r\n", "1\x0b", "1\x0c", "1\x1c", "1\x85", "1\xa0", "\u20031", "1\u2028", "1\u3000",
    "\ufeff1", "1\x00", "1\u200b",
    # other signs
    "a", "x1", "1x", "0x1", "0b1", "1e3", "1.0", "1.", ".5", "1,000", "1_000", "1_0/3", "1/1_1", "1:2", "1\\2",
    "nan", "inf", "True", "None", "(1, 2)", "1%", "1/b",
    # signs that look like figures, minus or stroke but aren't
    "\u0661", "\u0967", "\uff11", "\u00b2", "\u00bd", "\u2460", "\u4e00", "\u2160", "1\u0660", "\uff11/2",
    "1/\uff12", "1/\u0662", "\U0001d7cf", "\u22121", "\u20131", "\uff0d1", "1\u20442", "1\u22152", "1\uff0f2",
    # more than sixty figures
    "1" + "0" * 60, "-1" + "0" * 60, "1/1" + "0" * 60, "-1/1" + "0" * 60, "1" + "0" * 60 + "/3",
    "3/1" + "0" * 60, "1" * 61 + "/" + TENS, NINES + "/1" + "0" * 60, "0" * 60 + "1", "1" * 200, "1/" + "1" * 200,
    "1" * 5000, "1/" + "1" * 5000,
]
NO_TEXT_AT_ALL = [None, True, False, 0, 1, -1, 10 ** 70, 1.0, (1, 2), (1, 1), ("1",), (), [], ["1"], {}, {"1": 1},
                  b"1", bytearray(b"1"), b"", object(), str, len]


class FiguresTest(unittest.TestCase):
    def test_shown(self):
        for text, one in TEXTS:
            with self.subTest(text):
                self.assertEqual(show_ratio(one), text)
                self.assertIs(type(show_ratio(one)), str)

    def test_read(self):
        for text, one in TEXTS:
            with self.subTest(text):
                told = read_ratio(text)
                self.assertEqual(told, one)
                self.assertIs(type(told), tuple)
                self.assertEqual([type(part) for part in told], [int, int])

    def test_every_length_to_sixty_figures(self):
        for many in range(1, 61):
            ones = "1" * many
            top = int(ones)
            # A power of ten twice over shares nothing with a row of ones.
            twenties = "2" + "0" * (many - 1)
            bottom = int(twenties)
            for text, one in [(ones, (top, 1)), ("-" + ones, (-top, 1)), ("1/" + twenties, (1, bottom)),
                              (ones + "/" + twenties, (top, bottom)), ("-" + ones + "/" + twenties, (-top, bottom))]:
                with self.subTest(text):
                    self.assertEqual(show_ratio(one), text)
                    self.assertEqual(read_ratio(text), one)

    def test_small_numbers_there_and_back(self):
        for top in range(-30, 31):
            for bottom in range(1, 31):
                one = ratio_of(top, bottom)
                written = f"{top}/{bottom}"
                with self.subTest(written):
                    self.assertEqual(read_ratio(show_ratio(one)), one)
                    if one == (top, bottom) and bottom > 1:
                        self.assertEqual(read_ratio(written), one)
                    else:
                        self.assertRaises(NoText, read_ratio, written)

    def test_more_than_sixty_figures_are_shown(self):
        for many in (61, 62, 100, 640, 1000, 4000):
            ones = "1" * many
            top = (10 ** many - 1) // 9
            with self.subTest(many):
                self.assertEqual(show_ratio((top, 1)), ones)
                self.assertEqual(show_ratio((-top, 1)), "-" + ones)
                self.assertEqual(show_ratio((1, top)), "1/" + ones)
                self.assertEqual(show_ratio((-top, 10 ** (many - 1))), "-" + ones + "/1" + "0" * (many - 1))

    def test_no_number_s_text_is_refused(self):
        for text in NO_TEXTS:
            with self.subTest(text), self.assertRaises(NoText):
                read_ratio(text)

    def test_every_other_sign_is_refused(self):
        for code in range(0x3000):
            sign = chr(code)
            if sign in "0123456789":
                continue
            self.assertRaises(NoText, read_ratio, sign)
            self.assertRaises(NoText, read_ratio, "1" + sign)
            self.assertRaises(NoText, read_ratio, "1/3" + sign)
            if sign != "-":
                self.assertRaises(NoText, read_ratio, sign + "1")
                self.assertRaises(NoText, read_ratio, sign + "1/3")
            if sign != "/":
                self.assertRaises(NoText, read_ratio, "1" + sign + "3")

    def test_no_text_is_refused(self):
        for value in NO_TEXT_AT_ALL:
            with self.subTest(value), self.assertRaises(NoText):
                read_ratio(value)

    def test_names_of_arguments(self):
        self.assertEqual(str(inspect.signature(show_ratio)), "(one)")
        self.assertEqual(str(inspect.signature(read_ratio)), "(text)")


if __name__ == "__main__":
    unittest.main()
