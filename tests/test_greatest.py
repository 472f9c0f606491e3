"""Points 25 and 26: the greatest multiple of a load, and the prices of motions."""

import copy
import inspect
import random
import unittest
from fractions import Fraction

from trussyard import greatest
from trussyard.errors import NoBar, NoBound, NoPin
from trussyard.greatest import greatest_of, price_of
from trussyard.holds import Fixed
from trussyard.rests import rest_of
from yards import (Checks, NOUGHT, ONE, borne_load, braced_square, changed, forces_due, fraction, frame_of, frames,
                   in_line, lengthenings_due, long_number, loose_line, number, odd_names, pair, price_due,
                   random_bounds, random_load, roller, small_number, snapshot, square, times, triangle, twins, whole,
                   work_due)

NINE = 987654321
AROUND = (whole(-1), ONE)


def bounds_of(F, low=-1, high=1):
    """The same bounds for all bars."""
    return {bar: pair(low, high) for bar in F.bars()}


def small_frames():
    return [(name, F) for name, F in frames() if len(F.bars()) <= 12]


def nine_number(rng):
    return long_number(rng, 9)


def by_97(rng):
    return number(Fraction(rng.randint(0, 10 ** 9), 97))


class GreatestTest(Checks, unittest.TestCase):
    def assert_greatest(self, F, bounds, load):
        """What is told holds, so nothing else can be right. Told is the multiple, or None where there is no end."""
        before = copy.deepcopy((bounds, load)), list(bounds), list(load), snapshot(F)
        told = greatest_of(F, bounds, load)
        self.assertEqual(((bounds, load), list(bounds), list(load), snapshot(F)), before)
        self.assertIs(type(told), tuple)
        self.assertIn(told[0], ("most", "endless"))
        if told[0] == "endless":
            self.assertEqual(len(told), 2)
            self.assert_keeps_rest(F, {bar: NOUGHT for bar in F.bars()}, told[1], load)
            return None
        self.assertEqual(len(told), 5)
        self.assert_number(told[1])
        self.assertGreaterEqual(told[1][0], 0)
        self.assert_keeps_rest(F, told[2], told[3], times(fraction(told[1]), load))
        for bar, pull in told[2].items():
            self.assertLessEqual(fraction(bounds[bar][0]), fraction(pull))
            self.assertLessEqual(fraction(pull), fraction(bounds[bar][1]))
        self.assert_keeps_holds(F, told[4])
        self.assertEqual(work_due(load, told[4]), 1)
        self.assertEqual(price_due(F, bounds, told[4]), fraction(told[1]))
        self.assertEqual(price_of(F, bounds, told[4]), told[1])
        return fraction(told[1])

    def test_written_out(self):
        F = frame_of([("a", 0, 0, Fixed()), ("b", 2, 0, roller(0, 1))], [("ab", "a", "b")])
        # By hand: the bar draws b by twice its pull, so three times the load of 1 goes with a pull of 3/2.
        bounds = {"ab": (whole(-5), (3, 2))}
        told = greatest_of(F, bounds, {"b": pair(1, 7)})
        self.assertEqual(told, ("most", whole(3), {"ab": (3, 2)}, {"a": [whole(-3), NOUGHT], "b": [whole(-21)]},
                                {"a": pair(0, 0), "b": pair(1, 0)}))
        self.assertEqual([list(part) for part in told[2:]], [["ab"], ["a", "b"], ["a", "b"]])
        self.assertEqual(greatest_of(F, bounds, {"b": pair(-1, 0)})[:3], ("most", whole(10), {"ab": whole(-5)}))
        self.assertEqual(greatest_of(F, bounds, {"b": pair(0, 4)}),
                         ("endless", {"a": [NOUGHT, NOUGHT], "b": [whole(-4)]}))

    def test_endless(self):
        self.assertEqual(greatest_of(frame_of([]), {}, {}), ("endless", {}))
        for name, F in small_frames():
            with self.subTest(name):
                self.assertIsNone(self.assert_greatest(F, bounds_of(F), {}))
                self.assertIsNone(self.assert_greatest(F, bounds_of(F, 0, 0), {pin: pair(0, 0) for pin in F.pins()}))

    def test_loads_that_the_holds_bear_alone(self):
        seen = 0
        for at, (name, F) in enumerate(small_frames()):
            rng = random.Random(at)
            pushes = {pin: [long_number(rng, 9) for way in F.ways(pin)] for pin in F.pins()}
            load = {pin: pair(*[-force for force in two]) for pin, two in forces_due(F, {}, pushes).items()}
            with self.subTest(name):
                self.assertIsNone(self.assert_greatest(F, bounds_of(F), load))
            # The pushes are the only ones.
            self.assertEqual(greatest_of(F, bounds_of(F), load), ("endless", pushes))
            seen += any(pushes.values())
        self.assertGreater(seen, 10)

    def test_endless_with_bars_that_could_help(self):
        F = frame_of([("a", 0, 0, Fixed()), ("b", 1, 0, Fixed())], [("ab", "a", "b")])
        self.assertEqual(greatest_of(F, {"ab": AROUND}, {"b": pair(3, 4)}),
                         ("endless", {"a": [NOUGHT, NOUGHT], "b": [whole(-3), whole(-4)]}))

    def test_loads_that_can_t_be_borne(self):
        for F, load in [(square(), {"c": pair(1, 0)}), (in_line(), {"b": pair(0, 1)}),
                        (loose_line(), {"a": pair(1, 0)}), (frame_of([("a", 1, 1)]), {"a": pair(2, -3)}),
                        (frame_of([("a", 1, 1, roller(1, 1))]), {"a": pair(2, -3)})]:
            self.assertEqual(self.assert_greatest(F, bounds_of(F), load), 0)
            self.assertEqual(price_of(F, bounds_of(F), rest_of(F, load)[1]), NOUGHT)

    def test_bounds_of_nought(self):
        F = triangle()
        load = {"c": pair(0, -4)}
        self.assertEqual(self.assert_greatest(F, bounds_of(F, 0, 0), load), 0)
        # By hand, as in rest: ab pulls 1/4, bc -1/3, ca -1.
        self.assertEqual(self.assert_greatest(F, bounds_of(F), load), 1)
        self.assertEqual(self.assert_greatest(F, bounds_of(F, -1, 0), load), 0)
        self.assertEqual(self.assert_greatest(F, {"ab": pair(0, 3), "bc": pair(-2, 0), "ca": pair(-8, 0)}, load), 6)
        self.assertEqual(self.assert_greatest(F, {"ab": pair(0, 3), "bc": pair(-2, 0), "ca": pair(-2, 0)}, load), 2)
        self.assertEqual(self.assert_greatest(F, {"ab": pair(0, 1), "bc": pair(-2, 0), "ca": pair(-8, 0)}, load), 4)
        self.assertEqual(self.assert_greatest(F, {"ab": pair(-1, 0), "bc": pair(-2, 0), "ca": pair(-8, 0)}, load), 0)

    def test_bars_in_line(self):
        F = in_line()
        self.assertEqual(self.assert_greatest(F, {"one": pair(0, 2), "two": pair(-3, 0)}, {"b": pair(1, 0)}), 5)
        self.assertEqual(self.assert_greatest(F, {"one": pair(0, 2), "two": pair(-3, 0)}, {"b": pair(-1, 0)}), 0)
        load = {"b": pair(1, 0), "a": pair(9, 9)}
        self.assertEqual(self.assert_greatest(F, {"one": pair(0, 2), "two": pair(0, 0)}, load), 2)
        F = loose_line()
        bounds = {"ab": pair(0, 4), "bc": pair(0, 1), "ac": pair(-1, 1)}
        self.assertEqual(self.assert_greatest(F, bounds, {"a": pair(-1, -1), "c": pair(1, 1)}), 5)

    def test_twins(self):
        F = frame_of([("a", 0, 0, Fixed()), ("b", 1, 0, roller(0, 1))],
                     [("x", "a", "b"), ("y", "b", "a"), ("z", "a", "b")])
        bounds = {"z": pair(-7, 4), "x": pair(-1, Fraction(1, 2)), "y": pair(0, 3)}
        self.assertEqual(self.assert_greatest(F, bounds, {"b": pair(1, 0)}), Fraction(15, 2))
        self.assertEqual(self.assert_greatest(F, bounds, {"b": pair(-2, 1)}), 4)
        self.assertGreater(self.assert_greatest(twins(), bounds_of(twins()), {"c": pair(5, -7), "b": pair(1, 0)}), 0)

    def test_more_bars_than_needed(self):
        F = braced_square()
        load = {"c": pair(1, 0)}
        one = self.assert_greatest(F, bounds_of(F), load)
        self.assertGreaterEqual(one, 1)
        for bar in F.bars():
            less = braced_square()
            less.take_bar(bar)
            self.assertLessEqual(self.assert_greatest(less, bounds_of(less), load), one)

    def test_many_frames(self):
        seen = {"nought": 0, "some": 0, "endless": 0}
        for at, (name, F) in enumerate(small_frames()):
            rng = random.Random(at)
            for bounds, load in [(bounds_of(F), random_load(rng, F)), (random_bounds(rng, F), borne_load(rng, F)),
                                 (random_bounds(rng, F, by_97), borne_load(rng, F)),
                                 (bounds_of(F, -2, 0), borne_load(rng, F)),
                                 (random_bounds(rng, F, by_97), borne_load(rng, F, nine_number))]:
                with self.subTest(name, bounds=bounds, load=load):
                    multiple = self.assert_greatest(F, bounds, load)
                    seen["endless" if multiple is None else "some" if multiple else "nought"] += 1
        self.assertGreater(min(seen.values()), 20)

    def test_twelve_bars(self):
        seen = 0
        for seed in range(25):
            rng = random.Random(seed)
            pins = rng.choice([3, 4, 5, 6, 7, 24])
            F = frame_of([(f"p{at}", rng.randint(-9, 9), 20 * at + rng.randint(0, 9), *([Fixed()] if at < 2 else []))
                          for at in range(pins)])
            for at in range(12):
                F.put_bar(f"b{at}", *rng.sample(F.pins()[:7], 2))
            for load in (borne_load(rng, F), random_load(rng, F)):
                with self.subTest(seed):
                    seen += self.assert_greatest(F, random_bounds(rng, F, by_97), load) not in (None, 0)
        self.assertGreater(seen, 12)

    def test_bounds_times_a_number_and_loads_times_a_number(self):
        for at, (name, F) in enumerate(small_frames()):
            rng = random.Random(at)
            bounds, load = random_bounds(rng, F, by_97), borne_load(rng, F)
            factor = Fraction(rng.randint(1, 10 ** 9), rng.randint(1, 97))
            more = {bar: pair(*[factor * fraction(bound) for bound in two]) for bar, two in bounds.items()}
            with self.subTest(name):
                multiple = self.assert_greatest(F, bounds, load)
                if multiple is None:
                    self.assertIsNone(self.assert_greatest(F, more, load))
                    self.assertIsNone(self.assert_greatest(F, bounds, times(factor, load)))
                else:
                    self.assertEqual(self.assert_greatest(F, more, load), factor * multiple)
                    self.assertEqual(self.assert_greatest(F, bounds, times(factor, load)), multiple / factor)

    def test_another_order(self):
        for at, (name, F) in enumerate(small_frames()):
            rng = random.Random(at)
            bounds, load = random_bounds(rng, F, by_97), borne_load(rng, F)
            due = self.assert_greatest(F, bounds, load)
            for bar in rng.sample(F.bars(), len(F.bars())):
                one, other = F.ends(bar)
                F.take_bar(bar)
                F.put_bar(bar, other, one)
            with self.subTest(name):
                self.assertEqual(self.assert_greatest(F, bounds, load), due)

    def test_behind_changes(self):
        F = changed()
        load = {"c": pair(1, -2)}
        told = greatest_of(F, bounds_of(F), load)
        self.assertEqual((list(told[2]), list(told[3]), list(told[4])), (F.bars(), F.pins(), F.pins()))
        self.assert_greatest(F, bounds_of(F), load)
        bounds = bounds_of(F)
        F.take_bar("ac")
        self.assert_refused(NoBar, {"bar": "ac"}, greatest_of, F, bounds, load)
        F.put_bar("new", "a", "c")
        bounds = {bar: AROUND for bar in F.bars() if bar != "new"}
        self.assert_refused(NoBound, {"bar": "new"}, greatest_of, F, bounds, load)
        self.assert_greatest(F, bounds_of(F), load)

    def test_what_is_told_is_the_asker_s_own(self):
        F = braced_square()
        bounds, load = bounds_of(F), {"c": pair(1, -2)}
        due = copy.deepcopy(greatest_of(F, bounds, load))
        told = greatest_of(F, bounds, load)
        for pin in F.pins():
            told[3][pin].append("mine")
        self.assertEqual([len(told[3][pin]) for pin in F.pins()], [len(F.ways(pin)) + 1 for pin in F.pins()])
        for part in told[2:]:
            part.clear()
        self.assertEqual(greatest_of(F, bounds, load), due)
        told = greatest_of(F, bounds, {})[1]
        for pin in F.pins():
            told[pin].append("mine")
        self.assertEqual([len(told[pin]) for pin in F.pins()], [len(F.ways(pin)) + 1 for pin in F.pins()])
        self.assertIsNone(self.assert_greatest(F, bounds, {}))


class PriceTest(Checks, unittest.TestCase):
    def test_written_out(self):
        F = triangle()
        bounds = {"ab": pair(-2, 3), "bc": pair(-5, 7), "ca": pair(-11, 13)}
        # By hand: c to the right lengthens bc by -3 and ca by 1.
        self.assertEqual(lengthenings_due(F, {"c": pair(1, 0)}), {"ab": 0, "bc": -3, "ca": 1})
        self.assertEqual(price_of(F, bounds, {"c": pair(1, 0)}), whole(28))
        self.assertEqual(price_of(F, bounds, {"c": pair(-1, 0)}), whole(32))
        self.assertEqual(price_of(F, bounds, {}), NOUGHT)
        self.assertEqual(price_of(frame_of([]), {}, {}), NOUGHT)
        self.assertEqual(price_of(F, bounds_of(F, 0, 0), {"c": pair(1, 5)}), NOUGHT)

    def test_motions_in_which_pins_are_left_out(self):
        for at, (name, F) in enumerate(frames()):
            rng = random.Random(at)
            for make in (small_number, nine_number):
                bounds, motion = random_bounds(rng, F), random_load(rng, F, make)
                before = copy.deepcopy((bounds, motion)), list(bounds), list(motion), snapshot(F)
                with self.subTest(name):
                    self.assert_number(price_of(F, bounds, motion), price_due(F, bounds, motion))
                    self.assertEqual(((bounds, motion), list(bounds), list(motion), snapshot(F)), before)

    def test_no_motion_of_work_1_is_cheaper(self):
        for at, (name, F) in enumerate(small_frames()):
            rng = random.Random(at)
            bounds, load = random_bounds(rng, F), borne_load(rng, F)
            told = greatest_of(F, bounds, load)
            if told[0] == "most":
                other = greatest_of(F, random_bounds(rng, F, by_97), load)[4]
                self.assertGreaterEqual(fraction(price_of(F, bounds, other)), fraction(told[1]))


class RefusalsTest(Checks, unittest.TestCase):
    def assert_both_refused(self, error, fields, F, bounds):
        """By greatest_of and by price_of, and nothing is changed."""
        before = copy.deepcopy(bounds), list(bounds), snapshot(F)
        for two in ({}, {F.pins()[0]: pair(1, 1)} if F.pins() else {}):
            self.assert_refused(error, fields, greatest_of, F, bounds, two)
            self.assert_refused(error, fields, price_of, F, bounds, two)
        self.assertEqual((bounds, list(bounds), snapshot(F)), before)

    def test_strange_bars(self):
        F = triangle()
        for bounds, name in [({"z": AROUND}, "z"), ({"": AROUND}, ""), ({"a": AROUND, "b": AROUND}, "a"),
                             ({"ab": pair(1, 2), "y": AROUND, "x": AROUND}, "y"),
                             ({**bounds_of(F), "AB": AROUND}, "AB")]:
            with self.subTest(bounds=bounds):
                self.assert_both_refused(NoBar, {"bar": name}, F, bounds)
        self.assert_both_refused(NoBar, {"bar": "ab"}, frame_of([]), {"ab": AROUND})

    def test_no_bounds(self):
        F = triangle()
        tiny = Fraction(1, NINE)
        for bounds, name in [({}, "ab"), ({"ab": AROUND}, "bc"), ({"ca": AROUND, "ab": AROUND}, "bc"),
                             ({"bc": AROUND, "ab": AROUND}, "ca"), ({**bounds_of(F), "bc": pair(tiny, 1)}, "bc"),
                             ({**bounds_of(F), "bc": pair(-1, -tiny)}, "bc"),
                             ({**bounds_of(F), "ca": pair(1, -1)}, "ca"),
                             ({"ca": pair(1, 2), "bc": pair(-2, -1), "ab": AROUND}, "bc"),
                             ({"ca": AROUND, "ab": pair(-2, -1)}, "ab"), ({"bc": pair(1, 1), "ab": AROUND}, "bc")]:
            with self.subTest(bounds=bounds):
                self.assert_both_refused(NoBound, {"bar": name}, F, bounds)
        F.take_bar("ab")
        F.put_bar("ab", "a", "b")
        self.assert_both_refused(NoBound, {"bar": "bc"}, F, {})

    def test_bounds_at_nought_are_none_refused(self):
        F = odd_names()
        for low, high in ((0, 0), (-1, 0), (0, 1)):
            self.assertEqual(price_of(F, bounds_of(F, low, high), {}), NOUGHT)
            self.assertEqual(greatest_of(F, bounds_of(F, low, high), {})[0], "endless")

    def test_strange_pins_go_ahead(self):
        F = triangle()
        for load, name in [({"z": pair(0, 0)}, "z"), ({"b": pair(1, 1), "": pair(1, 1), "z": pair(1, 1)}, ""),
                           ({"ab": pair(1, 1), "A": pair(1, 1)}, "ab")]:
            for bounds in (bounds_of(F), {}, {"z": AROUND}, {"ab": pair(1, 2)}, {"x": pair(1, 2), "ab": AROUND}):
                with self.subTest(load=load, bounds=bounds):
                    self.assert_refused(NoPin, {"pin": name}, greatest_of, F, bounds, load)

    def test_names_of_arguments(self):
        for name, due in [("greatest_of", "(F, bounds, load)"), ("price_of", "(F, bounds, motion)")]:
            self.assertEqual(str(inspect.signature(getattr(greatest, name))), due)


if __name__ == "__main__":
    unittest.main()
