"""A frame as rows of numbers: the rows against points 9 and 11, and the way back from lists to dicts."""

import random
import unittest

from trussyard.equations import (bar_row, check_bars, draw_rows, load_row, motion_from, pair_row, pairs_of,
                                 pulls_and_pushes)
from trussyard.errors import NoBar, NoPin
from yards import (Checks, HALF, NOUGHT, ONE, forces_due, fraction, frame_of, frames, lengthenings_due, numbers, pair,
                   slips_due, small_number, triangle, whole)


def flat(pairs):
    return [part for two in pairs.values() for part in two]


class EquationsTest(Checks, unittest.TestCase):
    def test_rows_written_out(self):
        F = triangle()
        self.assertEqual(pairs_of(F), [("a", 0), ("a", 1), ("b", 0), ("b", 1), ("c", 0), ("c", 1)])
        self.assertEqual(draw_rows(F), [
            numbers([1, 0, 0, 0, 0, 0]), numbers([0, 1, 0, 0, 0, 0]), numbers([0, 0, 0, 1, 0, 0]),
            numbers([4, 0, -4, 0, 0, 0]), numbers([0, 0, -3, 3, 3, -3]), numbers([1, 3, 0, 0, -1, -3])])
        self.assertEqual(bar_row(F, "c", "b"), numbers([0, 0, -3, 3, 3, -3]))
        self.assertEqual(pair_row(F, {"c": (HALF, ONE)}), [NOUGHT] * 4 + [HALF, ONE])

    def test_no_pins(self):
        F = frame_of([])
        self.assertEqual((pairs_of(F), draw_rows(F), load_row(F, {})), ([], [], []))
        self.assertEqual((pulls_and_pushes(F, []), motion_from(F, [])), (({}, {}), {}))

    def test_rows_mixed_are_forces(self):
        for at, (name, F) in enumerate(frames()):
            rng = random.Random(at)
            rows = draw_rows(F)
            shares = [small_number(rng) for row in rows]
            pulls, pushes = pulls_and_pushes(F, shares)
            with self.subTest(name):
                self.assert_pulls(pulls, F.bars())
                self.assert_pushes(F, pushes)
                mixed = [sum(fraction(share) * fraction(row[column]) for share, row in zip(shares, rows))
                         for column in range(2 * len(F.pins()))]
                self.assertEqual(mixed, flat(forces_due(F, pulls, pushes)))

    def test_products_with_rows_are_slips_and_lengthenings_turned(self):
        for at, (name, F) in enumerate(frames()):
            rng = random.Random(at)
            xs = [small_number(rng) for pair_of in pairs_of(F)]
            motion = motion_from(F, xs)
            with self.subTest(name):
                self.assert_pairs(F, motion)
                self.assertEqual(flat(motion), xs)
                told = [sum(fraction(one) * fraction(x) for one, x in zip(row, xs)) for row in draw_rows(F)]
                due = [slip for some in slips_due(F, motion).values() for slip in some]
                due.extend(-longer for longer in lengthenings_due(F, motion).values())
                self.assertEqual(told, due)

    def test_load_row(self):
        F = triangle()
        self.assertEqual(load_row(F, {"c": pair(1, 2), "a": pair(3, 4)}), numbers([3, 4, 0, 0, 1, 2]))
        self.assertEqual(load_row(F, {}), [NOUGHT] * 6)
        load = {"c": pair(1, 2), "z": pair(0, 0), "ab": pair(1, 1)}
        self.assert_refused(NoPin, {"pin": "z"}, load_row, F, load)
        self.assertEqual(list(load), ["c", "z", "ab"])

    def test_check_bars(self):
        F = triangle()
        for told in ({}, {"ca": ONE}, {"bc": ONE, "ab": NOUGHT}):
            self.assertIsNone(check_bars(F, told))
        self.assert_refused(NoBar, {"bar": "z"}, check_bars, F, {"ca": ONE, "z": ONE, "a": ONE})

    def test_lists_told_are_new(self):
        F = triangle()
        shares = [whole(at) for at in range(6)]
        pulls_and_pushes(F, shares)[1]["a"].clear()
        draw_rows(F)[0].clear()
        self.assertEqual(shares, [whole(at) for at in range(6)])
        self.assertEqual(len(draw_rows(F)[0]), 6)


if __name__ == "__main__":
    unittest.main()
