"""Point 4: numbers, and what is reckoned with them."""

import inspect
import math
import unittest
from fractions import Fraction

from trussyard import ratios
from trussyard.errors import NoNumber
from trussyard.ratios import difference_of, is_less, product_of, quotient_of, ratio_of, sum_of

LONG = 10 ** 59 + 7
LONGEST = 10 ** 60 - 1
WHOLES = [0, 1, 2, 3, 4, 6, 7, 12, 30, 360, 10 ** 30, LONG, LONGEST]
SIGNED = WHOLES + [-whole for whole in WHOLES if whole]
NOT_WHOLE = [True, False, None, "1", "", "1/2", [], [1], (), (1,), (1, 2), {}, {1: 1}, set(), 1.0, 0.5, 1j, b"1",
             Fraction(1), object(), int, len]
NUMBERS = [ratio_of(top, bottom) for top in (0, 1, -1, 2, -3, 4, -6, 35, LONG, -LONGEST)
           for bottom in (1, 2, 3, 4, 6, 35, LONG, LONGEST)]


def fraction(one):
    return Fraction(one[0], one[1])


class RatiosTest(unittest.TestCase):
    def assert_number(self, told, due):
        """Told is the number due, and just of the kinds that a number is of."""
        self.assertIs(type(told), tuple)
        self.assertEqual([type(part) for part in told], [int, int])
        self.assertGreaterEqual(told[1], 1)
        self.assertEqual(math.gcd(told[0], told[1]), 1)
        self.assertEqual(told, (due.numerator, due.denominator))

    def test_ratio_of_two_wholes(self):
        for top in SIGNED:
            for bottom in SIGNED:
                if bottom:
                    with self.subTest(top=top, bottom=bottom):
                        self.assert_number(ratio_of(top, bottom), Fraction(top, bottom))

    def test_ratio_written_out(self):
        for pair, due in [((6, 4), (3, 2)), ((6, -4), (-3, 2)), ((-6, 4), (-3, 2)), ((-6, -4), (3, 2)),
                          ((4, 2), (2, 1)), ((2, 4), (1, 2)), ((3, 3), (1, 1)), ((-3, 3), (-1, 1)),
                          ((1, -1), (-1, 1)), ((5, 7), (5, 7))]:
            with self.subTest(pair):
                self.assertEqual(ratio_of(*pair), due)

    def test_nought(self):
        self.assertEqual(ratio_of(0), (0, 1))
        for bottom in SIGNED:
            if bottom:
                with self.subTest(bottom):
                    self.assertEqual(ratio_of(0, bottom), (0, 1))

    def test_top_alone(self):
        for top in SIGNED:
            with self.subTest(top):
                self.assertEqual(ratio_of(top), (top, 1))

    def test_sixty_figures_that_share(self):
        shared = 10 ** 29 + 1
        for top, bottom in [(3, 7), (-3, 7), (10 ** 29 + 3, 10 ** 29)]:
            with self.subTest(top=top, bottom=bottom):
                self.assert_number(ratio_of(shared * top, shared * bottom), Fraction(top, bottom))
                self.assert_number(ratio_of(shared * top, -shared * bottom), Fraction(-top, bottom))

    def test_bottom_nought_is_refused(self):
        for top in SIGNED:
            with self.subTest(top), self.assertRaises(NoNumber):
                ratio_of(top, 0)

    def test_no_whole_number_is_refused(self):
        for value in NOT_WHOLE:
            with self.subTest(value):
                self.assertRaises(NoNumber, ratio_of, value)
                self.assertRaises(NoNumber, ratio_of, value, 2)
                self.assertRaises(NoNumber, ratio_of, value, 0)
                self.assertRaises(NoNumber, ratio_of, 2, value)
                self.assertRaises(NoNumber, ratio_of, 0, value)
                self.assertRaises(NoNumber, ratio_of, value, value)

    def test_reckonings(self):
        for one in NUMBERS:
            for other in NUMBERS:
                with self.subTest(one=one, other=other):
                    self.assert_number(sum_of(one, other), fraction(one) + fraction(other))
                    self.assert_number(difference_of(one, other), fraction(one) - fraction(other))
                    self.assert_number(product_of(one, other), fraction(one) * fraction(other))
                    if other != (0, 1):
                        self.assert_number(quotient_of(one, other), fraction(one) / fraction(other))

    def test_reckonings_written_out(self):
        half, third, minus = (1, 2), (1, 3), (-2, 3)
        self.assertEqual(sum_of(half, third), (5, 6))
        self.assertEqual(sum_of(half, half), (1, 1))
        self.assertEqual(sum_of(minus, (2, 3)), (0, 1))
        self.assertEqual(difference_of(half, third), (1, 6))
        self.assertEqual(difference_of(third, half), (-1, 6))
        self.assertEqual(difference_of(half, half), (0, 1))
        self.assertEqual(product_of(half, minus), (-1, 3))
        self.assertEqual(product_of(minus, (0, 1)), (0, 1))
        self.assertEqual(quotient_of(half, third), (3, 2))
        self.assertEqual(quotient_of(half, minus), (-3, 4))
        self.assertEqual(quotient_of(minus, minus), (1, 1))
        self.assertEqual(quotient_of((0, 1), minus), (0, 1))

    def test_quotient_by_nought_is_refused(self):
        for one in NUMBERS:
            with self.subTest(one), self.assertRaises(NoNumber):
                quotient_of(one, (0, 1))

    def test_is_less(self):
        for one in NUMBERS:
            for other in NUMBERS:
                with self.subTest(one=one, other=other):
                    self.assertIs(is_less(one, other), fraction(one) < fraction(other))

    def test_is_less_written_out(self):
        self.assertIs(is_less((1, 3), (1, 2)), True)
        self.assertIs(is_less((1, 2), (1, 3)), False)
        self.assertIs(is_less((-1, 2), (-1, 3)), True)
        self.assertIs(is_less((0, 1), (0, 1)), False)
        self.assertIs(is_less((LONGEST - 1, LONGEST), (1, 1)), True)

    def test_told_numbers_of_many_figures(self):
        told = (1, 1)
        due = Fraction(1)
        for step in range(30):
            told = product_of(sum_of(told, (LONG, LONGEST)), (-LONGEST, LONG - step))
            due = (due + Fraction(LONG, LONGEST)) * Fraction(-LONGEST, LONG - step)
            self.assert_number(told, due)
        self.assertEqual(quotient_of(told, told), (1, 1))
        self.assertEqual(difference_of(told, told), (0, 1))

    def test_names_of_arguments(self):
        for name in ("sum_of", "difference_of", "product_of", "quotient_of", "is_less"):
            with self.subTest(name):
                self.assertEqual(str(inspect.signature(getattr(ratios, name))), "(one, other)")
        self.assertEqual(str(inspect.signature(ratio_of)), "(top, bottom=1)")


if __name__ == "__main__":
    unittest.main()
