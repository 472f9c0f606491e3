"""Point 15: rest or motion; points 2, 3, 8 and 10 of what is told and refused there."""

import copy
import inspect
import random
import unittest

from trussyard.errors import NoPin
from trussyard.holds import Fixed
from trussyard.rests import rest_of
from yards import (Checks, HALF, NOUGHT, ONE, braced_square, changed, forces_due, fraction, frame_of, frames, in_line,
                   lattice, long_number, loose_line, number, pair, random_forces, random_load, roller, small_number,
                   snapshot, square, triangle, twins, whole, work_due)


class RestsTest(Checks, unittest.TestCase):
    def assert_rest_or_moves(self, F, load):
        """One of the two is told, and holds; so there can't be the other one, too. Told is which of them."""
        before = copy.deepcopy(load), list(load), snapshot(F)
        told = rest_of(F, load)
        self.assertEqual((load, list(load), snapshot(F)), before)
        self.assertIs(type(told), tuple)
        self.assertIn(told[0], ("rest", "moves"))
        if told[0] == "rest":
            self.assertEqual(len(told), 3)
            self.assert_keeps_rest(F, told[1], told[2], load)
        else:
            self.assertEqual(len(told), 2)
            self.assert_own_motion(F, told[1])
            self.assertEqual(work_due(load, told[1]), 1)
        return told[0]

    def test_written_out(self):
        # By hand: bc and ca hold the load up at c, ab keeps their ends together.
        told = rest_of(triangle(), {"c": pair(0, -4)})
        self.assertEqual(told, ("rest", {"ab": (1, 4), "bc": (-1, 3), "ca": whole(-1)},
                                {"a": [NOUGHT, whole(3)], "b": [ONE], "c": []}))
        self.assertEqual((list(told[1]), list(told[2])), (["ab", "bc", "ca"], ["a", "b", "c"]))
        told = rest_of(frame_of([("a", 0, 0)]), {"a": pair(0, -4)})
        self.assertEqual((told[0], fraction(told[1]["a"][1]) * -4), ("moves", 1))

    def test_no_pins(self):
        self.assertEqual(rest_of(frame_of([]), {}), ("rest", {}, {}))

    def test_pins_without_bars(self):
        plain, on_roller, fixed = [frame_of([("a", 1, 2, *hold)]) for hold in ([], [roller(1, 2)], [Fixed()])]
        for F in (plain, on_roller, fixed):
            self.assertEqual(self.assert_rest_or_moves(F, {}), "rest")
            self.assertEqual(self.assert_rest_or_moves(F, {"a": pair(0, 0)}), "rest")
        for load in ({"a": pair(3, 0)}, {"a": pair(0, -3)}, {"a": pair(3, 5)}):
            self.assertEqual(self.assert_rest_or_moves(plain, load), "moves")
            self.assertEqual(self.assert_rest_or_moves(on_roller, load), "moves")
            self.assertEqual(self.assert_rest_or_moves(fixed, load), "rest")
        self.assertEqual(rest_of(on_roller, {"a": pair(-3, -6)}), ("rest", {}, {"a": [whole(3)]}))
        self.assertEqual(rest_of(fixed, {"a": pair(3, 5)}), ("rest", {}, {"a": [whole(-3), whole(-5)]}))

    def test_bars_in_line(self):
        F = in_line()
        self.assertEqual(self.assert_rest_or_moves(F, {"b": pair(7, 0)}), "rest")
        self.assertEqual(self.assert_rest_or_moves(F, {"b": pair(0, 1)}), "moves")
        self.assertEqual(self.assert_rest_or_moves(F, {"b": pair(7, 1)}), "moves")
        self.assertEqual(self.assert_rest_or_moves(F, {"a": pair(7, 9), "c": pair(-5, 2)}), "rest")
        F = loose_line()
        self.assertEqual(self.assert_rest_or_moves(F, {"a": pair(-2, -2), "c": pair(2, 2)}), "rest")
        self.assertEqual(self.assert_rest_or_moves(F, {"a": pair(-2, -2), "c": pair(2, 1)}), "moves")

    def test_twins(self):
        self.assertEqual(self.assert_rest_or_moves(twins(), {"c": pair(5, -7), "b": pair(1, 0)}), "rest")

    def test_more_bars_than_needed(self):
        self.assertEqual(self.assert_rest_or_moves(braced_square(), {"c": pair(5, -7), "d": pair(1, 0)}), "rest")

    def test_a_frame_that_moves(self):
        F = square()
        self.assertEqual(self.assert_rest_or_moves(F, {"c": pair(1, 0)}), "moves")
        self.assertEqual(self.assert_rest_or_moves(F, {"c": pair(1, 0), "d": pair(-1, 0)}), "rest")
        self.assertEqual(self.assert_rest_or_moves(F, {"c": pair(0, 1)}), "rest")

    def test_many_frames_and_loads(self):
        seen = {"rest": 0, "moves": 0}
        for at, (name, F) in enumerate(frames()):
            rng = random.Random(at)
            for make in (small_number, small_number, small_number, lambda source: long_number(source, 10)):
                load = random_load(rng, F, make)
                with self.subTest(name, load=load):
                    seen[self.assert_rest_or_moves(F, load)] += 1
        self.assertGreater(seen["rest"], 30)
        self.assertGreater(seen["moves"], 30)

    def test_loads_of_noughts(self):
        for name, F in frames():
            with self.subTest(name):
                self.assertEqual(self.assert_rest_or_moves(F, {}), "rest")
                self.assertEqual(self.assert_rest_or_moves(F, {pin: pair(0, 0) for pin in F.pins()}), "rest")

    def test_loads_that_forces_bear(self):
        for at, (name, F) in enumerate(frames()):
            rng = random.Random(at)
            for make in (small_number, long_number):
                forces = forces_due(F, *random_forces(rng, F, make))
                load = {pin: (number(-x), number(-y)) for pin, (x, y) in reversed(list(forces.items()))}
                with self.subTest(name):
                    self.assertEqual(self.assert_rest_or_moves(F, load), "rest")

    def test_a_strange_name_is_refused(self):
        for F in (frame_of([]), triangle(), square()):
            for load, name in [({"z": pair(0, 0)}, "z"), ({"": pair(1, 1)}, ""), ({"A": pair(1, 1)}, "A"),
                               ({"y": pair(1, 1), "x": pair(1, 1)}, "y"), ({"ab": pair(1, 1), "x": pair(1, 1)}, "ab")]:
                with self.subTest(load=load):
                    before = snapshot(F)
                    self.assert_refused(NoPin, {"pin": name}, rest_of, F, load)
                    self.assertEqual(snapshot(F), before)
        load = {"b": pair(1, 1), "q": pair(0, 0), "a": pair(1, 1), "p": pair(0, 0)}
        self.assert_refused(NoPin, {"pin": "q"}, rest_of, triangle(), load)

    def test_behind_changes(self):
        F = braced_square()
        load = {"c": pair(5, -7), "d": pair(1, 0)}
        self.assertEqual(self.assert_rest_or_moves(F, load), "rest")
        F.take_bar("ac")
        self.assertEqual(self.assert_rest_or_moves(F, load), "rest")
        F.take_bar("bd")
        self.assertEqual(self.assert_rest_or_moves(F, load), "moves")
        F.put_bar("ac", "c", "a")
        self.assertEqual(self.assert_rest_or_moves(F, load), "rest")
        self.assertEqual(list(rest_of(F, load)[1]), ["ab", "bc", "cd", "da", "ac"])
        F = changed()
        self.assertEqual(list(rest_of(F, {})[2]), ["a", "b", "d", "c"])
        self.assertEqual(self.assert_rest_or_moves(F, {"c": (HALF, whole(-3))}), "rest")

    def test_behind_a_pin_put_anew_with_another_hold(self):
        F = frame_of([("a", 0, 0, Fixed()), ("b", 1, 0)], [("ab", "a", "b")])
        load = {"b": pair(3, -1)}
        self.assertEqual(self.assert_rest_or_moves(F, load), "moves")
        F.take_bar("ab")
        F.take_pin("b")
        self.assert_refused(NoPin, {"pin": "b"}, rest_of, F, load)
        F.put_pin("b", whole(1), whole(0), roller(0, 1))
        F.put_bar("ab", "a", "b")
        self.assertEqual(self.assert_rest_or_moves(F, load), "rest")

    def test_what_is_told_is_the_asker_s_own(self):
        F = triangle()
        load = {"c": pair(0, -4)}
        due = copy.deepcopy(rest_of(F, load))
        told = rest_of(F, load)
        told[2]["a"].clear()
        told[1].clear()
        told[2].clear()
        self.assertEqual(rest_of(F, load), due)
        F = square()
        load = {"c": pair(1, 0)}
        rest_of(F, load)[1].clear()
        self.assertEqual(self.assert_rest_or_moves(F, load), "moves")
        self.assertEqual(load, {"c": pair(1, 0)})

    def test_at_the_bounds(self):
        rng = random.Random(24)
        F = lattice()
        self.assertEqual((len(F.pins()), len(F.bars())), (24, 60))
        load = {pin: (long_number(rng, 10), long_number(rng, 10)) for pin in F.pins()}
        self.assertEqual(self.assert_rest_or_moves(F, load), "rest")
        self.assertEqual(self.assert_rest_or_moves(lattice(40), load), "moves")

    def test_names_of_arguments(self):
        self.assertEqual(str(inspect.signature(rest_of)), "(F, load)")


if __name__ == "__main__":
    unittest.main()
