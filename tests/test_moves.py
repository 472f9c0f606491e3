"""Points 9 to 12: forces at pins, lengthenings, slips and work."""

import copy
import inspect
import random
import unittest
from fractions import Fraction

from trussyard import moves
from trussyard.holds import Fixed
from trussyard.moves import forces_at, lengthenings, slips, work_of
from yards import (Checks, HALF, NOUGHT, ONE, forces_due, fraction, frame_of, frames, lengthenings_due, long_number,
                   long_places, number, pair, random_forces, random_load, roller, slips_due, small_number, snapshot,
                   square, triangle, twins, whole, work_due)

STILL = (NOUGHT, NOUGHT)


class MovesTest(Checks, unittest.TestCase):
    def assert_forces(self, F, pulls, pushes):
        before = copy.deepcopy((pulls, pushes)), [list(pulls), list(pushes)], snapshot(F)
        told = forces_at(F, pulls, pushes)
        self.assert_pairs(F, told)
        self.assertEqual({pin: [fraction(one) for one in two] for pin, two in told.items()},
                         forces_due(F, pulls, pushes))
        self.assertEqual(before, ((pulls, pushes), [list(pulls), list(pushes)], snapshot(F)))

    def assert_lengthenings_and_slips(self, F, motion):
        before = copy.deepcopy(motion), list(motion), snapshot(F)
        told = lengthenings(F, motion)
        self.assert_pulls(told, F.bars())
        self.assertEqual({bar: fraction(one) for bar, one in told.items()}, lengthenings_due(F, motion))
        told = slips(F, motion)
        self.assert_pushes(F, told)
        self.assertEqual({pin: [fraction(one) for one in some] for pin, some in told.items()}, slips_due(F, motion))
        self.assertEqual(before, (motion, list(motion), snapshot(F)))

    def test_forces_written_out(self):
        F = triangle()
        told = forces_at(F, {"ab": (3, 1), "bc": HALF, "ca": (-2, 1)}, {"a": [(5, 1), (7, 2)], "b": [(-9, 4)]})
        # By ab (4, 0) times 3, by bc (-3, 3) times 1/2, by ca (-1, -3) times -2.
        self.assertEqual(told, {"a": (whole(15), (-5, 2)), "b": ((-27, 2), (-3, 4)), "c": ((7, 2), (9, 2))})
        self.assertEqual(list(told), ["a", "b", "c"])

    def test_a_pull_above_nought_draws_the_ends_together(self):
        F = frame_of([("a", 0, 0), ("b", 3, 1)], [("ab", "a", "b"), ("ba", "b", "a")])
        due = {"a": (whole(3), whole(1)), "b": (whole(-3), whole(-1))}
        self.assertEqual(forces_at(F, {"ab": ONE}, {}), due)
        self.assertEqual(forces_at(F, {"ba": ONE}, {}), due)

    def test_twins_draw_together(self):
        F = twins()
        self.assertEqual(forces_at(F, {"ab": ONE, "ab2": HALF, "ba": HALF}, {}), forces_at(F, {"ab": whole(2)}, {}))
        self.assertEqual(forces_at(F, {"ab": ONE, "ba": whole(-1)}, {}), {"a": STILL, "b": STILL, "c": STILL})

    def test_pushes_of_all_three_holds(self):
        F = frame_of([("a", 0, 0), ("b", 1, 0, roller(Fraction(1, 2), -3)), ("c", 2, 0, Fixed())])
        told = forces_at(F, {}, {"a": [], "b": [whole(4)], "c": [HALF, whole(-7)]})
        self.assertEqual(told, {"a": STILL, "b": (whole(2), whole(-12)), "c": (HALF, whole(-7))})
        self.assertEqual(forces_at(F, {}, {"c": [NOUGHT, NOUGHT]}), {"a": STILL, "b": STILL, "c": STILL})

    def test_what_is_left_out_is_nought(self):
        for name, F in frames():
            with self.subTest(name):
                noughts = ({bar: NOUGHT for bar in F.bars()}, {pin: [NOUGHT for way in F.ways(pin)] for pin in F.pins()})
                still = {pin: STILL for pin in F.pins()}
                self.assertEqual(forces_at(F, {}, {}), still)
                self.assertEqual(forces_at(F, *noughts), still)
                self.assertEqual(lengthenings(F, {}), noughts[0])
                self.assertEqual(lengthenings(F, still), noughts[0])
                self.assertEqual(slips(F, {}), noughts[1])
                self.assertEqual(slips(F, still), noughts[1])
                self.assertEqual(work_of({}, still), NOUGHT)
                self.assertEqual(work_of(still, {}), NOUGHT)

    def test_forces_of_many_frames(self):
        for at, (name, F) in enumerate(frames()):
            rng = random.Random(at)
            for make in (small_number, small_number, long_number):
                with self.subTest(name):
                    self.assert_forces(F, *random_forces(rng, F, make))

    def test_lengthenings_and_slips_of_many_frames(self):
        for at, (name, F) in enumerate(frames()):
            rng = random.Random(at)
            for make in (small_number, small_number, long_number):
                with self.subTest(name):
                    self.assert_lengthenings_and_slips(F, random_load(rng, F, make))

    def test_sixty_figures(self):
        rng = random.Random(60)
        F = long_places()
        pulls = {bar: long_number(rng, 59) for bar in F.bars()}
        pushes = {pin: [long_number(rng, 59) for way in F.ways(pin)] for pin in F.pins()}
        self.assert_forces(F, pulls, pushes)
        self.assert_lengthenings_and_slips(F, {pin: (long_number(rng, 59), long_number(rng, 59)) for pin in F.pins()})

    def test_dicts_in_another_order(self):
        rng = random.Random(3)
        F = long_places()
        pulls = {bar: long_number(rng) for bar in F.bars()}
        pushes = {pin: [long_number(rng) for way in F.ways(pin)] for pin in F.pins()}
        motion = {pin: (long_number(rng), long_number(rng)) for pin in F.pins()}
        about = [{name: told[name] for name in reversed(list(told))} for told in (pulls, pushes, motion)]
        told = forces_at(F, about[0], about[1])
        self.assertEqual(list(told.items()), list(forces_at(F, pulls, pushes).items()))
        self.assertEqual(list(lengthenings(F, about[2]).items()), list(lengthenings(F, motion).items()))
        self.assertEqual(list(slips(F, about[2]).items()), list(slips(F, motion).items()))
        self.assertEqual(work_of(told, about[2]), work_of(told, motion))

    def test_lengthenings_written_out(self):
        F = triangle()
        told = lengthenings(F, {"c": (HALF, whole(2)), "b": (whole(-1), whole(5))})
        # The arms are (4, 0), (-3, 3) and (-1, -3).
        self.assertEqual(told, {"ab": whole(-4), "bc": (-27, 2), "ca": (13, 2)})
        self.assertEqual(list(told), ["ab", "bc", "ca"])

    def test_slips_written_out(self):
        F = frame_of([("a", 0, 0), ("b", 1, 0, roller(Fraction(1, 2), -3)), ("c", 2, 0, Fixed())])
        told = slips(F, {"c": (whole(3), HALF), "a": (ONE, ONE), "b": (whole(4), whole(1))})
        self.assertEqual(told, {"a": [], "b": [whole(-1)], "c": [whole(3), HALF]})
        self.assertEqual(list(told), ["a", "b", "c"])

    def test_work_written_out(self):
        load = {"a": (whole(2), whole(3)), "b": (ONE, ONE), "": (HALF, NOUGHT)}
        motion = {"": ((1, 3), whole(9)), "c": (whole(8), whole(8)), "a": (whole(-5), HALF)}
        self.assertEqual(work_of(load, motion), (-25, 3))
        self.assertEqual(work_of(motion, load), (-25, 3))
        self.assertEqual(work_of({}, {}), NOUGHT)
        self.assertEqual(work_of(load, {"x": (ONE, ONE)}), NOUGHT)

    def test_work_of_many_loads(self):
        rng = random.Random(11)
        for name, F in frames():
            for make in (small_number, long_number):
                load, motion = random_load(rng, F, make), random_load(rng, F, make)
                before = copy.deepcopy((load, motion))
                with self.subTest(name):
                    self.assert_number(work_of(load, motion), work_due(load, motion))
                    self.assertEqual((load, motion), before)

    def test_work_of_forces(self):
        """Point 12, by what the program tells alone."""
        for at, (name, F) in enumerate(frames()):
            rng = random.Random(at)
            for make in (small_number, long_number):
                pulls, pushes = random_forces(rng, F, make)
                motion = random_load(rng, F, make)
                slipped, longer = slips(F, motion), lengthenings(F, motion)
                due = sum(fraction(push) * fraction(slip) for pin in pushes
                          for push, slip in zip(pushes[pin], slipped[pin]))
                due -= sum(fraction(pulls[bar]) * fraction(longer[bar]) for bar in pulls)
                with self.subTest(name):
                    self.assertEqual(work_of(forces_at(F, pulls, pushes), motion), number(due))

    def test_behind_a_pin_put_elsewhere(self):
        F = square()
        pulls = {"ab": ONE, "bc": whole(3), "cd": HALF, "da": whole(5)}
        motion = {"b": (ONE, whole(2)), "d": (HALF, whole(-3))}
        self.assert_forces(F, pulls, {"b": [whole(2)]})
        F.take_bar("ab")
        F.take_bar("bc")
        F.take_pin("b")
        F.put_pin("b", whole(7), (-3, 2), Fixed())
        F.put_bar("bc", "c", "b")
        F.put_bar("ab", "a", "b")
        self.assert_forces(F, pulls, {"b": [whole(2), HALF]})
        self.assert_lengthenings_and_slips(F, motion)
        self.assertEqual(list(forces_at(F, pulls, {})), ["a", "c", "d", "b"])
        self.assertEqual(list(lengthenings(F, motion)), ["cd", "da", "bc", "ab"])

    def test_what_is_told_is_the_asker_s_own(self):
        F = triangle()
        pulls, pushes, motion = {"ab": ONE}, {"a": [ONE, HALF]}, {"c": pair(1, 2)}
        for ask in (lambda: forces_at(F, pulls, pushes), lambda: lengthenings(F, motion), lambda: slips(F, motion)):
            first = ask()
            due = copy.deepcopy(first)
            self.assertIsNot(first, ask())
            first.clear()
            self.assertEqual(ask(), due)
        slips(F, motion)["a"].append(ONE)
        self.assertEqual(slips(F, motion), {"a": [NOUGHT, NOUGHT], "b": [NOUGHT], "c": []})
        self.assertEqual(pushes, {"a": [ONE, HALF]})

    def test_names_of_arguments(self):
        for name, due in [("forces_at", "(F, pulls, pushes)"), ("lengthenings", "(F, motion)"),
                          ("slips", "(F, motion)"), ("work_of", "(load, motion)")]:
            with self.subTest(name):
                self.assertEqual(str(inspect.signature(getattr(moves, name))), due)


if __name__ == "__main__":
    unittest.main()
