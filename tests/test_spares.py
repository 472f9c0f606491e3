"""Point 16: spare and needed bars."""

import copy
import inspect
import random
import unittest

from trussyard import spares
from trussyard.changes import would_put
from trussyard.holds import Fixed
from trussyard.rests import rest_of
from trussyard.spares import needs_of, spares_of
from yards import (Checks, NOUGHT, ONE, braced_square, crowd, fraction, frame_of, frames, in_line, lattice,
                   lengthenings_due, number, random_load, snapshot, square, triangle, twins)


def both(one, other):
    return number(fraction(one) + fraction(other))


class SparesTest(Checks, unittest.TestCase):
    def assert_spares_and_needs(self, F):
        """Each bar is one of the two, with what shows it. Told are the spare ones."""
        before = snapshot(F)
        spare, needed = spares_of(F), needs_of(F)
        self.assertEqual(snapshot(F), before)
        bars = F.bars()
        self.assertEqual([type(spare), type(needed)], [dict, dict])
        self.assertEqual(sorted(list(spare) + list(needed)), sorted(bars))
        self.assertEqual(list(spare), [bar for bar in bars if bar in spare])
        self.assertEqual(list(needed), [bar for bar in bars if bar in needed])
        for bar, told in spare.items():
            self.assertIs(type(told), tuple)
            pulls, pushes = told
            self.assert_keeps_rest(F, pulls, pushes, {})
            self.assertEqual(pulls[bar], ONE)
            self.assertTrue(all(pulls[other] == NOUGHT for other in spare if other != bar))
            self.assertTrue(all(pulls[other] == NOUGHT for other in bars[bars.index(bar) + 1:]))
        for bar, motion in needed.items():
            self.assert_keeps_holds(F, motion)
            longer = lengthenings_due(F, motion)
            self.assertEqual([longer[other] for other in needed], [int(other == bar) for other in needed])
        return list(spare)

    def test_none_to_spare(self):
        for F in (frame_of([]), frame_of([("a", 0, 0, Fixed())]), triangle(), square(), lattice(45)):
            self.assertEqual(self.assert_spares_and_needs(F), [])

    def test_which_are_spare(self):
        self.assertEqual(self.assert_spares_and_needs(braced_square()), ["bd"])
        self.assertEqual(self.assert_spares_and_needs(twins()), ["ab2", "ba", "ca2"])
        self.assertEqual(self.assert_spares_and_needs(in_line()), ["two"])
        F = frame_of([("a", 0, 0, Fixed()), ("b", 3, 4, Fixed())], [("ab", "b", "a")])
        self.assertEqual(self.assert_spares_and_needs(F), ["ab"])
        self.assertEqual(len(self.assert_spares_and_needs(lattice())), 60 + 3 - 48)

    def test_written_out(self):
        F = frame_of([("a", 0, 0), ("b", 2, 0)], [("x", "a", "b"), ("y", "b", "a")])
        self.assertEqual(spares_of(F), {"y": ({"x": (-1, 1), "y": ONE}, {"a": [], "b": []})})
        longer = lengthenings_due(F, needs_of(F)["x"])
        self.assertEqual(longer, {"x": 1, "y": 1})

    def test_many_frames(self):
        for name, F in frames():
            with self.subTest(name):
                self.assert_spares_and_needs(F)

    def test_dozens_of_bars_between_three_pins(self):
        F = crowd()
        self.assertEqual(len(F.bars()), 60)
        # Of the three sides each is needed once, in the order in which they came.
        self.assertEqual(self.assert_spares_and_needs(F), [bar for bar in F.bars() if bar not in ("0", "1", "3")])

    def test_where_a_bar_is_spare_other_forces_keep_rest_too(self):
        for at, (name, F) in enumerate(frames()):
            load = random_load(random.Random(at), F)
            told = rest_of(F, load)
            if told[0] == "rest":
                with self.subTest(name):
                    for pulls, pushes in spares_of(F).values():
                        other = {bar: both(pulls[bar], told[1][bar]) for bar in F.bars()}
                        held = {pin: [both(*two) for two in zip(pushes[pin], told[2][pin])] for pin in F.pins()}
                        self.assert_keeps_rest(F, other, held, load)
                        self.assertNotEqual(other, told[1])

    def test_a_bar_put_last_is_spare_where_it_is_told_so(self):
        for at, (name, F) in enumerate(frames()):
            if 1 < len(F.pins()) and len(F.bars()) < 60:
                one, other = random.Random(at).sample(F.pins(), 2)
                before = spares_of(F)
                told = would_put(F, "last", one, other)
                F.put_bar("last", one, other)
                with self.subTest(name):
                    self.assertEqual("last" in spares_of(F), told[0] == "spare")
                    self.assertEqual(list(before), [bar for bar in spares_of(F) if bar != "last"])

    def test_a_bar_taken_and_put_again_is_the_last_to_be_needed(self):
        F = twins()
        F.take_bar("ab")
        self.assertEqual(self.assert_spares_and_needs(F), ["ba", "ca2"])
        F.put_bar("ab", "a", "b")
        self.assertEqual(self.assert_spares_and_needs(F), ["ba", "ca2", "ab"])

    def test_it_hangs_on_the_frame_alone(self):
        F = braced_square()
        first = [spares_of(F), needs_of(F)]
        rest_of(F, {"c": (ONE, ONE)})
        self.assertEqual(list(first[0]), list(spares_of(braced_square())))

    def test_what_is_told_is_the_asker_s_own(self):
        F = braced_square()
        due = copy.deepcopy([spares_of(F), needs_of(F)])
        told = spares_of(F)
        for pulls, pushes in told.values():
            pushes["a"].clear()
            pulls.clear()
            pushes.clear()
        told.clear()
        told = needs_of(F)
        for motion in told.values():
            motion.clear()
        told.clear()
        self.assertEqual([spares_of(F), needs_of(F)], due)

    def test_names_of_arguments(self):
        for name in ("spares_of", "needs_of"):
            self.assertEqual(str(inspect.signature(getattr(spares, name))), "(F)")


if __name__ == "__main__":
    unittest.main()
