"""Point 24: the greatest worth under limits, with prices, or a list by which it has no end."""

import copy
import inspect
import random
import unittest
from fractions import Fraction

from trussyard.prices import most_of
from yards import Checks, NOUGHT, fraction, fractions, number, numbers


def product(one, other):
    return sum((left * right for left, right in zip(fractions(one), fractions(other))), Fraction(0))


def times(factor, row):
    return numbers([factor * one for one in fractions(row)])


def nine_by_97(rng):
    return number(Fraction(rng.randint(-10 ** 9 + 1, 10 ** 9 - 1), 97))


def small(rng):
    return number(Fraction(rng.randint(-3, 3), rng.choice([1, 1, 2])))


def above(make):
    """Numbers of the same make, none below 0."""
    return lambda rng: number(abs(fraction(make(rng))))


def often_nought(make):
    return lambda rng: NOUGHT if rng.random() < 0.5 else make(rng)


def drawn(rng, many, row_many, make, make_limit):
    """Gains, rows and limits."""
    return ([make(rng) for column in range(many)], [[make(rng) for column in range(many)] for row in range(row_many)],
            [make_limit(rng) for row in range(row_many)])


def puzzles():
    """Lists of gains, rows and limits of many sorts."""
    found = []
    for seed in range(300):
        rng = random.Random(seed)
        make = rng.choice([small, small, nine_by_97, often_nought(small), often_nought(nine_by_97), above(small)])
        make_limit = above(rng.choice([small, nine_by_97, often_nought(small), lambda source: NOUGHT]))
        found.append(drawn(rng, rng.randint(1, 7), rng.randint(0, 9), make, make_limit))
    return found


class PricesTest(Checks, unittest.TestCase):
    def assert_most(self, gains, rows, limits):
        """What is told holds, so that nothing else can be right. Told is the worth, or None where it has no end."""
        before = copy.deepcopy((gains, rows, limits))
        told = most_of(gains, rows, limits)
        self.assertEqual((gains, rows, limits), before)
        self.assertIs(type(told), tuple)
        self.assertIn(told[0], ("most", "endless"))
        if told[0] == "endless":
            self.assertEqual(len(told), 2)
            self.assert_none_below_nought(told[1], len(gains))
            self.assertTrue(all(product(row, told[1]) <= 0 for row in rows))
            self.assertEqual(product(gains, told[1]), 1)
            return None
        self.assertEqual(len(told), 4)
        self.assert_number(told[1], product(gains, told[2]))
        self.assert_none_below_nought(told[2], len(gains))
        self.assertTrue(all(product(row, told[2]) <= fraction(limit) for row, limit in zip(rows, limits)))
        self.assert_none_below_nought(told[3], len(rows))
        for column, gain in enumerate(gains):
            self.assertGreaterEqual(product(told[3], [row[column] for row in rows]), fraction(gain))
        self.assertEqual(product(told[3], limits), fraction(told[1]))
        return fraction(told[1])

    def assert_none_below_nought(self, told, many):
        self.assert_numbers(told, many)
        self.assertTrue(all(one[0] >= 0 for one in told))

    def test_written_out(self):
        gains, rows, limits = numbers([3, 2]), [numbers([1, 1]), numbers([1, 3])], numbers([4, 6])
        self.assertEqual(most_of(gains, rows, limits), ("most", (12, 1), numbers([4, 0]), numbers([3, 0])))
        gains, rows = numbers([2, 3]), [numbers([1, 1]), numbers([1, 3])]
        self.assertEqual(most_of(gains, rows, limits),
                         ("most", (9, 1), numbers([3, 1]), numbers([Fraction(3, 2), Fraction(1, 2)])))
        self.assertEqual(most_of(numbers([1, 4]), [numbers([1, -2])], numbers([1])),
                         ("endless", numbers([0, Fraction(1, 4)])))

    def test_no_rows(self):
        self.assertEqual(most_of(numbers([0]), [], []), ("most", NOUGHT, [NOUGHT], []))
        self.assertEqual(most_of(numbers([-3, 0]), [], []), ("most", NOUGHT, [NOUGHT, NOUGHT], []))
        self.assertEqual(most_of(numbers([7]), [], []), ("endless", [(1, 7)]))
        self.assertIsNone(self.assert_most(numbers([-1, Fraction(2, 3), 5]), [], []))

    def test_rows_of_noughts(self):
        noughts = numbers([0, 0])
        for limits in (numbers([0]), numbers([5])):
            self.assertIsNone(self.assert_most(numbers([1, -1]), [noughts], limits))
            self.assertEqual(self.assert_most(numbers([0, -1]), [noughts], limits), 0)
            self.assertEqual(self.assert_most(numbers([2, 2]), [noughts, numbers([1, 1])], limits + numbers([3])), 6)

    def test_a_row_twice(self):
        row = numbers([1, 2])
        self.assertEqual(self.assert_most(numbers([1, 1]), [row, row], numbers([4, 4])), 4)
        self.assertEqual(self.assert_most(numbers([1, 1]), [row, row, row], numbers([4, 3, 5])), 3)
        self.assertEqual(self.assert_most(numbers([1, 1]), [row, times(3, row)], numbers([4, 12])), 4)
        self.assertEqual(self.assert_most(numbers([1, 1]), [row, row], numbers([0, 0])), 0)

    def test_gains_of_nought_and_below(self):
        rows, limits = [numbers([1, 1, 1])], numbers([5])
        self.assertEqual(self.assert_most(numbers([0, 0, 0]), rows, limits), 0)
        self.assertEqual(self.assert_most(numbers([-1, -2, 0]), rows, limits), 0)
        self.assertEqual(self.assert_most(numbers([-1, 2, 0]), rows, limits), 10)
        # What costs worth by itself may still let through more.
        self.assertEqual(self.assert_most(numbers([2, -1]), [numbers([1, -1]), numbers([0, 1])], numbers([1, 3])), 5)
        self.assertEqual(self.assert_most(numbers([2, -3]), [numbers([1, -1]), numbers([0, 1])], numbers([1, 3])), 2)

    def test_rows_below_nought(self):
        self.assertIsNone(self.assert_most(numbers([1]), [numbers([-1])], numbers([0])))
        self.assertIsNone(self.assert_most(numbers([1, 1]), [numbers([1, -1])], numbers([0])))
        self.assertIsNone(self.assert_most(numbers([1, -1]), [numbers([1, -2]), numbers([-1, 0])], numbers([5, 7])))
        self.assertEqual(self.assert_most(numbers([1, -2]), [numbers([1, -1])], numbers([3])), 3)

    def test_ties_at_nought_have_an_end(self):
        # Lists by which a careless choice among ties is known to go round without end.
        half = Fraction(1, 2)
        around = [
            (numbers([10, -57, -9, -24]),
             [numbers([half, -5 - half, -2 - half, 9]), numbers([half, -1 - half, -half, 1]), numbers([1, 0, 0, 0])],
             numbers([0, 0, 1]), 1),
            (numbers([Fraction(3, 4), -20, half, -6]),
             [numbers([Fraction(1, 4), -8, -1, 9]), numbers([half, -12, -half, 3]), numbers([0, 0, 1, 0])],
             numbers([0, 0, 1]), Fraction(5, 4)),
            (numbers([Fraction(3, 4), -150, Fraction(1, 50), -6]),
             [numbers([Fraction(1, 4), -60, Fraction(-1, 25), 9]), numbers([half, -90, Fraction(-1, 50), 3]),
              numbers([0, 0, 1, 0])], numbers([0, 0, 1]), Fraction(1, 20)),
            (numbers([Fraction(4, 10), Fraction(4, 10), Fraction(-18, 10)]),
             [numbers([Fraction(6, 10), Fraction(-64, 10), Fraction(48, 10)]),
              numbers([Fraction(2, 10), Fraction(-18, 10), Fraction(6, 10)]),
              numbers([Fraction(4, 10), Fraction(-16, 10), Fraction(2, 10)]), numbers([0, 1, 0])],
             numbers([0, 0, 0, 1]), 2),
        ]
        for gains, rows, limits, worth in around:
            self.assertEqual(self.assert_most(gains, rows, limits), worth)

    def test_all_limits_nought(self):
        seen = {True: 0, False: 0}
        for seed in range(150):
            rng = random.Random(seed)
            make = rng.choice([small, nine_by_97, often_nought(small)])
            gains, rows, limits = drawn(rng, rng.randint(1, 8), rng.randint(1, 10), make, lambda source: NOUGHT)
            with self.subTest(seed):
                worth = self.assert_most(gains, rows, limits)
                self.assertIn(worth, (None, 0))
                seen[worth is None] += 1
        self.assertGreater(min(seen.values()), 20)

    def test_many_puzzles(self):
        seen = {"nought": 0, "some": 0, "endless": 0}
        for gains, rows, limits in puzzles():
            with self.subTest(gains=gains, rows=rows, limits=limits):
                worth = self.assert_most(gains, rows, limits)
                seen["endless" if worth is None else "some" if worth else "nought"] += 1
        self.assertGreater(min(seen.values()), 30)

    def test_another_order(self):
        for at, (gains, rows, limits) in enumerate(puzzles()[:120]):
            rng = random.Random(at)
            columns = rng.sample(range(len(gains)), len(gains))
            places = rng.sample(range(len(rows)), len(rows))
            with self.subTest(at):
                self.assertEqual(
                    self.assert_most([gains[column] for column in columns],
                                     [[rows[place][column] for column in columns] for place in places],
                                     [limits[place] for place in places]),
                    self.assert_most(gains, rows, limits))

    def test_rows_and_limits_times_a_number(self):
        for at, (gains, rows, limits) in enumerate(puzzles()[:120]):
            rng = random.Random(at)
            factors = [Fraction(rng.randint(1, 10 ** rng.choice([1, 9])), rng.randint(1, 97)) for row in rows]
            with self.subTest(at):
                worth = self.assert_most(gains, rows, limits)
                self.assertEqual(
                    self.assert_most(gains, [times(factor, row) for factor, row in zip(factors, rows)],
                                     [number(factor * fraction(limit)) for factor, limit in zip(factors, limits)]),
                    worth)
                factor = Fraction(rng.randint(1, 99), rng.randint(1, 99))
                due = None if worth is None else factor * worth
                self.assertEqual(self.assert_most(gains, rows, times(factor, limits)), due)
                self.assertEqual(self.assert_most(times(factor, gains), rows, limits), due)

    def test_at_the_bounds(self):
        for seed in range(4):
            rng = random.Random(seed)
            with self.subTest(seed):
                self.assert_most(*drawn(rng, 30, 40, nine_by_97, above(nine_by_97)))
                self.assert_most(*drawn(rng, 30, 40, often_nought(small), above(often_nought(small))))
                self.assertIsNotNone(self.assert_most(*drawn(rng, 30, 40, above(nine_by_97), above(nine_by_97))))
        rng = random.Random(9)
        self.assert_most(*drawn(rng, 30, 0, nine_by_97, nine_by_97))
        self.assert_most(*drawn(rng, 1, 40, nine_by_97, above(nine_by_97)))

    def test_many_corners(self):
        # A box that is skewed so that a way along its edges can be very long.
        many = 25
        gains = numbers([2 ** (many - 1 - column) for column in range(many)])
        rows = [numbers([2 ** (row - column + 1) if column < row else int(column == row) for column in range(many)])
                for row in range(many)]
        self.assertEqual(self.assert_most(gains, rows, numbers([5 ** (row + 1) for row in range(many)])), 5 ** many)

    def test_what_is_told_is_the_asker_s_own(self):
        gains, rows, limits = numbers([2, 3]), [numbers([1, 1]), numbers([1, 3])], numbers([4, 6])
        due = copy.deepcopy(most_of(gains, rows, limits))
        told = most_of(gains, rows, limits)
        told[2].clear()
        told[3].clear()
        self.assertEqual(most_of(gains, rows, limits), due)
        most_of(gains, [], [])[1].clear()
        self.assertIsNone(self.assert_most(gains, [], []))

    def test_names_of_arguments(self):
        self.assertEqual(str(inspect.signature(most_of)), "(gains, rows, limits)")


if __name__ == "__main__":
    unittest.main()
