"""Points 21, 22 and 23: bars that give way; points 2, 3, 8 and 10 of what is told and refused there."""

import copy
import inspect
import random
import unittest
from fractions import Fraction

from trussyard import giving
from trussyard.errors import NoBar, NoGrip, NoPin
from trussyard.giving import bend_of, stored_of
from trussyard.holds import Fixed
from trussyard.rests import rest_of
from trussyard.spares import spares_of
from yards import (Checks, HALF, NOUGHT, ONE, borne_load, both_loads, braced_square, changed, crowd, fraction, frame_of,
                   frames, grip_number, in_line, lattice, lengthenings_due, long_number, loose_line, number, odd_names,
                   pair, random_forces, random_grips, random_load, roller, small_number, snapshot, square, stored_due,
                   times, triangle, twins, whole, work_due)

NINE = 987654321


def less(one, other, bars):
    """The differences of two dicts of pulls."""
    return {bar: number(fraction(one[bar]) - fraction(other[bar])) for bar in bars}


class BendTest(Checks, unittest.TestCase):
    def assert_bend(self, F, grips, load):
        """What is told holds, and is what rest_of tells of rest and motion. Told is which of them."""
        before = copy.deepcopy((grips, load)), list(grips), list(load), snapshot(F)
        told = bend_of(F, grips, load)
        self.assertEqual(((grips, load), list(grips), list(load), snapshot(F)), before)
        self.assertIs(type(told), tuple)
        self.assertEqual(told[0], {"rest": "bent", "moves": "moves"}[rest_of(F, load)[0]])
        if told[0] == "moves":
            self.assertEqual(len(told), 2)
            self.assert_own_motion(F, told[1])
            self.assertEqual(work_due(load, told[1]), 1)
            return told[0]
        self.assertEqual(len(told), 4)
        self.assert_keeps_rest(F, told[1], told[2], load)
        self.assert_keeps_holds(F, told[3])
        for bar, longer in lengthenings_due(F, told[3]).items():
            self.assertEqual(fraction(told[1][bar]), fraction(grips.get(bar, ONE)) * longer)
        return told[0]

    def test_written_out(self):
        # By hand: two bars of length 1 hold b between them, and share what draws it as their grips are.
        F = frame_of([("a", 0, 0, Fixed()), ("b", 1, 0, roller(0, 1)), ("c", 2, 0, Fixed())],
                     [("ab", "a", "b"), ("bc", "b", "c")])
        told = bend_of(F, {"ab": whole(3)}, {"b": pair(2, 5)})
        self.assertEqual(told, ("bent", {"ab": (3, 2), "bc": (-1, 2)},
                                {"a": [(-3, 2), NOUGHT], "b": [whole(-5)], "c": [(-1, 2), NOUGHT]},
                                {"a": pair(0, 0), "b": pair(Fraction(1, 2), 0), "c": pair(0, 0)}))
        self.assertEqual([list(part) for part in told[1:]], [["ab", "bc"], ["a", "b", "c"], ["a", "b", "c"]])
        told = bend_of(F, {}, {"b": pair(2, 0)})
        self.assertEqual(told[1], {"ab": ONE, "bc": whole(-1)})
        # A bar's pull is a force for each unit of length, so one of length 2 lengthens twice as much by as much move.
        F = frame_of([("a", 0, 0, Fixed()), ("b", 2, 0, roller(0, 1))], [("ab", "a", "b")])
        self.assertEqual(bend_of(F, {"ab": (1, 3)}, {"b": pair(1, 0)}),
                         ("bent", {"ab": HALF}, {"a": [whole(-1), NOUGHT], "b": [NOUGHT]},
                          {"a": pair(0, 0), "b": pair(Fraction(3, 4), 0)}))

    def test_no_pins(self):
        self.assertEqual(bend_of(frame_of([]), {}, {}), ("bent", {}, {}, {}))

    def test_pins_without_bars(self):
        plain, on_roller, fixed = [frame_of([("a", 1, 2, *hold)]) for hold in ([], [roller(1, 2)], [Fixed()])]
        for F in (plain, on_roller, fixed):
            self.assertEqual(self.assert_bend(F, {}, {}), "bent")
            self.assertEqual(self.assert_bend(F, {}, {"a": pair(0, 0)}), "bent")
        for load in ({"a": pair(3, 0)}, {"a": pair(0, -3)}, {"a": pair(3, 5)}):
            self.assertEqual(self.assert_bend(plain, {}, load), "moves")
            self.assertEqual(self.assert_bend(on_roller, {}, load), "moves")
            self.assertEqual(self.assert_bend(fixed, {}, load), "bent")
        self.assertEqual(self.assert_bend(on_roller, {}, {"a": pair(-3, -6)}), "bent")
        self.assertEqual(bend_of(fixed, {}, {"a": pair(3, 5)}),
                         ("bent", {}, {"a": [whole(-3), whole(-5)]}, {"a": pair(0, 0)}))

    def test_bars_in_line(self):
        F = in_line()
        self.assertEqual(self.assert_bend(F, {"one": whole(NINE)}, {"b": pair(7, 0)}), "bent")
        self.assertEqual(self.assert_bend(F, {"two": (1, NINE)}, {"b": pair(0, 1)}), "moves")
        self.assertEqual(self.assert_bend(F, {}, {"b": pair(7, 1)}), "moves")
        self.assertEqual(self.assert_bend(F, {}, {"a": pair(7, 9), "c": pair(-5, 2)}), "bent")
        F = loose_line()
        self.assertEqual(self.assert_bend(F, {"ac": (1, NINE)}, {"a": pair(-2, -2), "c": pair(2, 2)}), "bent")
        self.assertEqual(self.assert_bend(F, {"ac": (1, NINE)}, {"a": pair(-2, -2), "c": pair(2, 1)}), "moves")

    def test_twins_share_by_their_grips(self):
        F = twins()
        grips = {"ab2": whole(NINE), "ba": (1, NINE), "ca2": HALF}
        load = {"c": pair(5, -7), "b": pair(1, 0)}
        self.assertEqual(self.assert_bend(F, grips, load), "bent")
        pulls = {bar: fraction(pull) for bar, pull in bend_of(F, grips, load)[1].items()}
        self.assertEqual([pulls["ab2"], pulls["ba"]], [pulls["ab"] * NINE, pulls["ab"] / NINE])
        self.assertEqual(pulls["ca2"], pulls["ca"] / 2)

    def test_frames_that_move_and_that_don_t(self):
        F = square()
        self.assertEqual(self.assert_bend(F, {"ab": whole(7)}, {"c": pair(1, 0)}), "moves")
        self.assertEqual(self.assert_bend(F, {"cd": (1, 7)}, {"c": pair(1, 0), "d": pair(-1, 0)}), "bent")
        self.assertEqual(self.assert_bend(F, {}, {"c": pair(0, 1)}), "bent")
        for F in (triangle(), braced_square(), changed()):
            self.assertEqual(self.assert_bend(F, {"ab": (1, 7)}, {"c": pair(2, -1)}), "bent")

    def test_many_frames(self):
        seen = {"bent": 0, "moves": 0}
        for at, (name, F) in enumerate(frames()):
            rng = random.Random(at)
            for grips, load in [({}, random_load(rng, F)), (random_grips(rng, F), random_load(rng, F)),
                                (random_grips(rng, F), borne_load(rng, F)),
                                (random_grips(rng, F, small_above), borne_load(rng, F, nine_number))]:
                with self.subTest(name, load=load, grips=grips):
                    seen[self.assert_bend(F, grips, load)] += 1
        self.assertGreater(seen["bent"], 30)
        self.assertGreater(seen["moves"], 30)

    def test_grips_of_all_bars(self):
        for at, make in enumerate((triangle, braced_square, twins, odd_names, crowd, changed)):
            F = make()
            rng = random.Random(at)
            for grips in ({bar: whole(NINE) for bar in F.bars()}, {bar: (1, NINE) for bar in F.bars()},
                          {bar: grip_number(rng) for bar in reversed(F.bars())}):
                with self.subTest(make.__name__):
                    self.assertEqual(self.assert_bend(F, grips, borne_load(rng, F)), "bent")

    def test_equal_grips_alter_moves_alone(self):
        F = braced_square()
        load = {"c": pair(2, -5), "d": pair(1, 1)}
        one = bend_of(F, {}, load)
        many = bend_of(F, {bar: whole(7) for bar in F.bars()}, load)
        self.assertEqual(many[1:3], one[1:3])
        self.assertEqual(times(7, many[3]), one[3])

    def test_behind_changes(self):
        F = braced_square()
        grips = {"ac": whole(5), "bd": (1, 5)}
        load = {"c": pair(5, -7), "d": pair(1, 0)}
        self.assertEqual(self.assert_bend(F, grips, load), "bent")
        F.take_bar("ac")
        self.assert_refused(NoBar, {"bar": "ac"}, bend_of, F, grips, load)
        self.assertEqual(self.assert_bend(F, {"bd": (1, 5)}, load), "bent")
        F.take_bar("bd")
        self.assertEqual(self.assert_bend(F, {}, load), "moves")
        F.put_bar("ac", "c", "a")
        self.assertEqual(self.assert_bend(F, {"ac": whole(5)}, load), "bent")
        self.assertEqual(list(bend_of(F, {"ac": whole(5)}, load)[1]), ["ab", "bc", "cd", "da", "ac"])

    def test_behind_a_pin_put_anew_with_another_hold(self):
        F = frame_of([("a", 0, 0, Fixed()), ("b", 1, 0)], [("ab", "a", "b")])
        load = {"b": pair(3, -1)}
        self.assertEqual(self.assert_bend(F, {"ab": HALF}, load), "moves")
        F.take_bar("ab")
        F.take_pin("b")
        self.assert_refused(NoPin, {"pin": "b"}, bend_of, F, {}, load)
        F.put_pin("b", whole(1), whole(0), roller(0, 1))
        self.assertEqual(self.assert_bend(F, {}, load), "moves")
        F.put_bar("ab", "a", "b")
        self.assertEqual(self.assert_bend(F, {"ab": HALF}, load), "bent")
        F.put_pin("c", whole(1), whole(1))
        self.assertEqual(list(bend_of(F, {}, load)[3]), ["a", "b", "c"])
        self.assertEqual(self.assert_bend(F, {}, {"c": pair(0, 1)}), "moves")
        F.put_bar("bc", "b", "c")
        self.assertEqual(self.assert_bend(F, {"bc": (1, NINE)}, {"c": pair(0, 1)}), "bent")

    def test_what_is_told_is_the_asker_s_own(self):
        F = frame_of([("a", 0, 0, Fixed()), ("b", 3, 0, Fixed()), ("c", 1, 1), ("d", 2, 2)],
                     [("ac", "a", "c"), ("bc", "b", "c"), ("ad", "a", "d"), ("bd", "b", "d")])
        for load in ({}, {"c": pair(1, -2)}):
            due = copy.deepcopy(bend_of(F, {}, load))
            told = bend_of(F, {}, load)
            for pin in F.pins():
                others = [copy.copy(told[2][other]) for other in F.pins() if other != pin]
                told[2][pin].append("mine")
                self.assertEqual([told[2][other] for other in F.pins() if other != pin], others)
            for part in told[1:]:
                part.clear()
            self.assertEqual(bend_of(F, {}, load), due)
        F = square()
        bend_of(F, {}, {"c": pair(1, 0)})[1].clear()
        self.assertEqual(self.assert_bend(F, {}, {"c": pair(1, 0)}), "moves")

    def test_at_the_bounds(self):
        rng = random.Random(24)
        F = lattice()
        grips = {bar: grip_number(rng) for bar in F.bars()}
        load = {pin: (nine_number(rng), nine_number(rng)) for pin in F.pins()}
        self.assertEqual(self.assert_bend(F, grips, load), "bent")
        self.assertEqual(self.assert_bend(lattice(40), {}, load), "moves")


def nine_number(rng):
    return long_number(rng, 9)


def small_above(rng):
    return number(abs(fraction(small_number(rng))) + Fraction(1, 7))


class StoredTest(Checks, unittest.TestCase):
    def test_written_out(self):
        F = triangle()
        self.assertEqual(stored_of(F, {}, {}), NOUGHT)
        self.assertEqual(stored_of(F, {}, {"ab": whole(-3)}), (9, 2))
        self.assertEqual(stored_of(F, {"ab": whole(9)}, {"ab": whole(3), "ca": HALF}), (5, 8))
        self.assertEqual(stored_of(frame_of([]), {}, {}), NOUGHT)

    def test_drawn_pulls(self):
        for at, (name, F) in enumerate(frames()):
            rng = random.Random(at)
            for make in (small_number, nine_number):
                pulls, grips = random_forces(rng, F, make)[0], random_grips(rng, F)
                before = copy.deepcopy((pulls, grips)), list(pulls), list(grips), snapshot(F)
                with self.subTest(name):
                    self.assert_number(stored_of(F, grips, pulls), stored_due(F, grips, pulls))
                    self.assertEqual(((pulls, grips), list(pulls), list(grips), snapshot(F)), before)

    def test_bent_pulls_store_half_of_the_load_s_work(self):
        for at, (name, F) in enumerate(frames()):
            rng = random.Random(at)
            grips, load = random_grips(rng, F), borne_load(rng, F)
            told = bend_of(F, grips, load)
            with self.subTest(name):
                self.assert_number(stored_of(F, grips, told[1]), work_due(load, told[3]) / 2)

    def test_other_pulls_store_more(self):
        seen = 0
        for at, (name, F) in enumerate(frames()):
            rng = random.Random(at)
            grips, load = random_grips(rng, F), borne_load(rng, F)
            bent = bend_of(F, grips, load)[1]
            others = [rest_of(F, load)[1]]
            for pulls, pushes in list(spares_of(F).values())[:3]:
                shift = Fraction(rng.randint(1, 9), rng.randint(1, 9))
                others.append({bar: number(fraction(bent[bar]) + shift * fraction(pulls[bar])) for bar in F.bars()})
            for other in others:
                apart = less(other, bent, F.bars())
                with self.subTest(name):
                    more = fraction(stored_of(F, grips, other)) - fraction(stored_of(F, grips, bent))
                    self.assertEqual(more, fraction(stored_of(F, grips, apart)))
                seen += other != bent
        self.assertGreater(seen, 20)

    def test_two_loads(self):
        for at, (name, F) in enumerate(frames()):
            rng = random.Random(at)
            grips, one, other = random_grips(rng, F), borne_load(rng, F), borne_load(rng, F)
            here, there, both = [bend_of(F, grips, load) for load in (one, other, both_loads(one, other))]
            with self.subTest(name):
                self.assertEqual(work_due(one, there[3]), work_due(other, here[3]))
                self.assertEqual({bar: fraction(pull) for bar, pull in both[1].items()},
                                 {bar: fraction(here[1][bar]) + fraction(there[1][bar]) for bar in F.bars()})


class RefusalsTest(Checks, unittest.TestCase):
    def assert_both_refused(self, error, fields, F, grips):
        """By bend_of and by stored_of, and nothing is changed."""
        before = copy.deepcopy(grips), list(grips), snapshot(F)
        self.assert_refused(error, fields, bend_of, F, grips, {})
        self.assert_refused(error, fields, stored_of, F, grips, {})
        self.assertEqual((grips, list(grips), snapshot(F)), before)

    def test_strange_bars(self):
        F = triangle()
        for grips, name in [({"z": ONE}, "z"), ({"": ONE}, ""), ({"AB": ONE}, "AB"), ({"a": ONE}, "a"),
                            ({"ab": ONE, "y": ONE, "x": ONE}, "y"), ({"ab": NOUGHT, "y": ONE, "x": NOUGHT}, "y")]:
            with self.subTest(grips=grips):
                self.assert_both_refused(NoBar, {"bar": name}, F, grips)
        self.assert_both_refused(NoBar, {"bar": "ab"}, frame_of([]), {"ab": ONE})

    def test_grips_not_above_nought(self):
        F = triangle()
        for grips, name in [({"ab": NOUGHT}, "ab"), ({"bc": (-1, NINE)}, "bc"), ({"ca": NOUGHT, "bc": NOUGHT}, "bc"),
                            ({"ca": whole(-3), "ab": ONE}, "ca"), ({"bc": ONE, "ca": NOUGHT, "ab": (-1, 2)}, "ab")]:
            with self.subTest(grips=grips):
                self.assert_both_refused(NoGrip, {"bar": name}, F, grips)
        F.take_bar("ab")
        F.put_bar("ab", "a", "b")
        self.assert_both_refused(NoGrip, {"bar": "bc"}, F, {"ab": NOUGHT, "bc": NOUGHT})

    def test_refused_whatever_the_load_and_pulls(self):
        for F, load in [(square(), {"c": pair(1, 0)}), (square(), {"c": pair(0, 1)})]:
            self.assert_refused(NoGrip, {"bar": "bc"}, bend_of, F, {"bc": NOUGHT}, load)
            self.assert_refused(NoGrip, {"bar": "bc"}, stored_of, F, {"bc": NOUGHT}, {"ab": ONE})
            self.assert_refused(NoBar, {"bar": "z"}, stored_of, F, {"z": ONE}, {"ab": ONE})

    def test_strange_pins_go_ahead(self):
        F = triangle()
        for load, name in [({"z": pair(0, 0)}, "z"), ({"b": pair(1, 1), "": pair(1, 1), "z": pair(1, 1)}, ""),
                           ({"ab": pair(1, 1), "A": pair(1, 1)}, "ab")]:
            for grips in ({}, {"ab": ONE}, {"z": ONE}, {"ab": NOUGHT}, {"x": NOUGHT, "ab": NOUGHT}):
                with self.subTest(load=load, grips=grips):
                    self.assert_refused(NoPin, {"pin": name}, bend_of, F, grips, load)

    def test_names_of_arguments(self):
        for name, due in [("bend_of", "(F, grips, load)"), ("stored_of", "(F, grips, pulls)")]:
            self.assertEqual(str(inspect.signature(getattr(giving, name))), due)


if __name__ == "__main__":
    unittest.main()
