"""Points 7 and 8: frames, their pins and bars, and what they refuse; point 2: what is told is the asker's own."""

import inspect
import unittest

from trussyard.errors import BarThere, NoBar, NoLength, NoPin, PinBusy, PinThere, SpotTaken, TooMany
from trussyard.frames import Frame
from trussyard.holds import Fixed, Hold, Roller
from yards import Checks, HALF, NOUGHT, ONE, RIGHT, UP, frame_of, roller, snapshot, whole

LONG = (10 ** 60 - 1, 10 ** 59)
NAMES = ["", " ", "a", "A", "aa", "aA", "a b", "ab", "abc", "b", "a\n", "1", "01", "-1", "\u00e9", "e\u0301", "x" * 300]


def full_of_pins():
    F = Frame()
    for at in range(24):
        F.put_pin(f"p{at}", whole(at), whole(at * at))
    return F


def full_of_bars():
    F = frame_of([("a", 0, 0), ("b", 1, 0), ("c", 0, 1)])
    for at in range(60):
        F.put_bar(f"b{at}", "a", "b")
    return F


class FramesTest(Checks, unittest.TestCase):
    def assert_unchanged(self, F, error, fields, ask, *words):
        """Refused so, and nothing changed by it."""
        before = snapshot(F)
        self.assert_refused(error, fields, ask, *words)
        self.assertEqual(snapshot(F), before)

    def test_none_at_first(self):
        F = Frame()
        self.assertEqual(F.pins(), [])
        self.assertEqual(F.bars(), [])

    def test_pins_in_order_with_places_and_ways(self):
        F = Frame()
        F.put_pin("z", NOUGHT, NOUGHT)
        F.put_pin("a", HALF, LONG, None)
        F.put_pin("m", LONG, HALF, Hold())
        F.put_pin("b", (-1, 2), (-7, 3), Roller(HALF, (-2, 3)))
        F.put_pin("y", NOUGHT, ONE, Fixed())
        self.assertEqual(F.pins(), ["z", "a", "m", "b", "y"])
        self.assertEqual(F.bars(), [])
        self.assertEqual([F.place(pin) for pin in F.pins()],
                         [(NOUGHT, NOUGHT), (HALF, LONG), (LONG, HALF), ((-1, 2), (-7, 3)), (NOUGHT, ONE)])
        self.assertEqual([F.ways(pin) for pin in F.pins()], [[], [], [], [(HALF, (-2, 3))], [RIGHT, UP]])

    def test_bars_in_order_with_ends(self):
        F = frame_of([("a", 0, 0), ("b", 1, 0), ("c", 0, 1)])
        F.put_bar("z", "a", "b")
        F.put_bar("y", "b", "a")
        F.put_bar("x", "a", "b")
        F.put_bar("m", "c", "a")
        self.assertEqual(F.bars(), ["z", "y", "x", "m"])
        self.assertEqual([F.ends(bar) for bar in F.bars()], [("a", "b"), ("b", "a"), ("a", "b"), ("c", "a")])
        self.assertEqual(F.pins(), ["a", "b", "c"])

    def test_kinds(self):
        F = frame_of([("a", 0, 0, Fixed()), ("b", 1, 0)], [("ab", "a", "b")])
        for told, kind in [(F.pins(), list), (F.bars(), list), (F.place("a"), tuple), (F.ways("a"), list),
                           (F.ways("b"), list), (F.ends("ab"), tuple)]:
            with self.subTest(told=told):
                self.assertIs(type(told), kind)

    def test_puts_and_takes_give_back_none(self):
        F = Frame()
        self.assertIsNone(F.put_pin("a", NOUGHT, NOUGHT))
        self.assertIsNone(F.put_pin("b", ONE, NOUGHT, Fixed()))
        self.assertIsNone(F.put_bar("ab", "a", "b"))
        self.assertIsNone(F.take_bar("ab"))
        self.assertIsNone(F.take_pin("a"))

    def test_a_bar_taken_and_put_again_comes_last(self):
        F = frame_of([("a", 0, 0), ("b", 1, 0)], [("x", "a", "b"), ("y", "a", "b"), ("z", "a", "b")])
        F.take_bar("x")
        self.assertEqual(F.bars(), ["y", "z"])
        F.put_bar("x", "b", "a")
        self.assertEqual(F.bars(), ["y", "z", "x"])
        self.assertEqual(F.ends("x"), ("b", "a"))
        self.assertEqual(F.ends("y"), ("a", "b"))

    def test_a_pin_taken_and_put_again_comes_last(self):
        F = frame_of([("a", 0, 0, Fixed()), ("b", 1, 0), ("c", 2, 0, roller(1, 1))])
        F.take_pin("a")
        self.assertEqual(F.pins(), ["b", "c"])
        F.put_pin("a", whole(9), HALF, Roller(ONE, HALF))
        self.assertEqual(F.pins(), ["b", "c", "a"])
        self.assertEqual((F.place("a"), F.ways("a")), ((whole(9), HALF), [(ONE, HALF)]))
        F.take_pin("c")
        F.put_pin("c", whole(2), NOUGHT)
        self.assertEqual(F.pins(), ["b", "a", "c"])
        self.assertEqual(F.ways("c"), [])

    def test_any_text_is_a_name(self):
        F = Frame()
        for at, name in enumerate(NAMES):
            F.put_pin(name, whole(at), NOUGHT)
        self.assertEqual(F.pins(), NAMES)
        for at, name in enumerate(NAMES):
            F.put_bar(name, name, NAMES[at - 1])
        self.assertEqual(F.bars(), NAMES)
        for at, name in enumerate(NAMES):
            self.assertEqual(F.place(name), (whole(at), NOUGHT))
            self.assertEqual(F.ends(name), (name, NAMES[at - 1]))
            self.assert_unchanged(F, PinThere, {"pin": name}, F.put_pin, name, whole(-1), ONE)
            self.assert_unchanged(F, BarThere, {"bar": name}, F.put_bar, name, "a", "b")
        for other in ("B", "aaa", "ab ", "\n", "x" * 299, "E"):
            self.assert_unchanged(F, NoPin, {"pin": other}, F.place, other)
            self.assert_unchanged(F, NoBar, {"bar": other}, F.ends, other)

    def test_a_pin_and_a_bar_of_one_name(self):
        F = frame_of([("a", 0, 0), ("b", 1, 0)], [("a", "a", "b")])
        self.assertEqual((F.pins(), F.bars()), (["a", "b"], ["a"]))
        self.assert_unchanged(F, NoBar, {"bar": "b"}, F.take_bar, "b")
        F.put_bar("b", "a", "b")
        F.take_bar("a")
        F.take_bar("b")
        F.take_pin("a")
        self.assertEqual((F.pins(), F.bars()), (["b"], []))

    def test_put_pin_refuses_a_name_that_is_there(self):
        F = frame_of([("a", 0, 0, Fixed()), ("b", 1, 0)])
        self.assert_unchanged(F, PinThere, {"pin": "a"}, F.put_pin, "a", whole(5), whole(5))
        self.assert_unchanged(F, PinThere, {"pin": "b"}, F.put_pin, "b", whole(5), whole(5), Fixed())

    def test_put_pin_refuses_a_spot_that_is_taken(self):
        F = frame_of([("a", 0, 0), ("b", 1, 0), ("c", 0, 1)])
        F.put_pin("d", HALF, LONG)
        for pin, place in [("a", (NOUGHT, NOUGHT)), ("b", (ONE, NOUGHT)), ("c", (NOUGHT, ONE)), ("d", (HALF, LONG))]:
            with self.subTest(pin):
                self.assert_unchanged(F, SpotTaken, {"pin": pin}, F.put_pin, "new", *place)
                self.assert_unchanged(F, SpotTaken, {"pin": pin}, F.put_pin, "", *place, Fixed())
        F.put_pin("near", LONG, HALF)
        F.put_pin("beside", NOUGHT, HALF)
        F.put_pin("over", ONE, ONE)

    def test_put_pin_refuses_the_25th(self):
        F = full_of_pins()
        self.assertEqual(len(F.pins()), 24)
        self.assert_unchanged(F, TooMany, {}, F.put_pin, "more", whole(-1), whole(-1))
        F.take_pin("p7")
        F.put_pin("more", whole(-1), whole(-1))
        self.assertEqual(F.pins()[-1], "more")
        self.assert_unchanged(F, TooMany, {}, F.put_pin, "p7", whole(7), whole(49))

    def test_put_pin_s_first_refusal(self):
        F = full_of_pins()
        self.assert_unchanged(F, PinThere, {"pin": "p3"}, F.put_pin, "p3", whole(2), whole(4))
        self.assert_unchanged(F, PinThere, {"pin": "p3"}, F.put_pin, "p3", whole(-1), whole(-1))
        self.assert_unchanged(F, SpotTaken, {"pin": "p2"}, F.put_pin, "new", whole(2), whole(4))
        F.take_pin("p20")
        self.assert_unchanged(F, PinThere, {"pin": "p3"}, F.put_pin, "p3", whole(2), whole(4))

    def test_put_bar_refuses_a_name_that_is_there(self):
        F = frame_of([("a", 0, 0), ("b", 1, 0)], [("ab", "a", "b")])
        self.assert_unchanged(F, BarThere, {"bar": "ab"}, F.put_bar, "ab", "b", "a")

    def test_put_bar_refuses_strange_pins(self):
        F = frame_of([("a", 0, 0), ("b", 1, 0)], [("ab", "a", "b")])
        self.assert_unchanged(F, NoPin, {"pin": "x"}, F.put_bar, "new", "x", "a")
        self.assert_unchanged(F, NoPin, {"pin": "x"}, F.put_bar, "new", "a", "x")
        self.assert_unchanged(F, NoPin, {"pin": "x"}, F.put_bar, "new", "x", "y")
        self.assert_unchanged(F, NoPin, {"pin": "ab"}, F.put_bar, "new", "ab", "a")
        F.put_pin("x", whole(3), whole(3))
        F.put_bar("new", "x", "a")

    def test_put_bar_refuses_one_pin_twice(self):
        F = frame_of([("a", 0, 0), ("b", 1, 0)])
        self.assert_unchanged(F, NoLength, {"bar": "aa"}, F.put_bar, "aa", "a", "a")
        F.put_bar("aa", "a", "b")

    def test_put_bar_refuses_the_61st(self):
        F = full_of_bars()
        self.assertEqual(len(F.bars()), 60)
        self.assert_unchanged(F, TooMany, {}, F.put_bar, "more", "b", "c")
        F.take_bar("b5")
        F.put_bar("more", "b", "c")
        self.assertEqual(F.bars()[-1], "more")
        self.assert_unchanged(F, TooMany, {}, F.put_bar, "b5", "a", "b")

    def test_put_bar_s_first_refusal(self):
        F = full_of_bars()
        self.assert_unchanged(F, BarThere, {"bar": "b9"}, F.put_bar, "b9", "x", "y")
        self.assert_unchanged(F, BarThere, {"bar": "b9"}, F.put_bar, "b9", "a", "a")
        self.assert_unchanged(F, BarThere, {"bar": "b9"}, F.put_bar, "b9", "a", "c")
        self.assert_unchanged(F, NoPin, {"pin": "x"}, F.put_bar, "new", "x", "y")
        self.assert_unchanged(F, NoPin, {"pin": "x"}, F.put_bar, "new", "x", "x")
        self.assert_unchanged(F, NoPin, {"pin": "y"}, F.put_bar, "new", "a", "y")
        self.assert_unchanged(F, NoLength, {"bar": "new"}, F.put_bar, "new", "a", "a")

    def test_take_bar_refuses_a_strange_one(self):
        F = frame_of([("a", 0, 0), ("b", 1, 0)], [("ab", "a", "b")])
        for name in ("", "a", "AB", "abc"):
            self.assert_unchanged(F, NoBar, {"bar": name}, F.take_bar, name)
        F.take_bar("ab")
        self.assert_unchanged(F, NoBar, {"bar": "ab"}, F.take_bar, "ab")

    def test_take_pin_refuses_a_strange_or_busy_one(self):
        F = frame_of([("a", 0, 0), ("b", 1, 0), ("c", 2, 2)])
        for bar, one, other in [("bc", "b", "c"), ("cb", "c", "b"), ("ab", "a", "b"), ("ca", "c", "a")]:
            F.put_bar(bar, one, other)
        self.assert_unchanged(F, NoPin, {"pin": "ab"}, F.take_pin, "ab")
        self.assert_unchanged(F, PinBusy, {"pin": "a", "bar": "ab"}, F.take_pin, "a")
        self.assert_unchanged(F, PinBusy, {"pin": "b", "bar": "bc"}, F.take_pin, "b")
        self.assert_unchanged(F, PinBusy, {"pin": "c", "bar": "bc"}, F.take_pin, "c")
        F.take_bar("bc")
        F.put_bar("bc", "b", "c")
        self.assert_unchanged(F, PinBusy, {"pin": "c", "bar": "cb"}, F.take_pin, "c")
        F.take_bar("ab")
        self.assert_unchanged(F, PinBusy, {"pin": "a", "bar": "ca"}, F.take_pin, "a")
        F.take_bar("ca")
        F.take_pin("a")
        self.assert_unchanged(F, NoPin, {"pin": "a"}, F.take_pin, "a")

    def test_a_pin_whose_name_is_part_of_another_is_not_busy(self):
        F = frame_of([("a", 0, 0), ("ab", 1, 0), ("abc", 2, 2)], [("a", "ab", "abc")])
        F.take_pin("a")
        self.assertEqual(F.pins(), ["ab", "abc"])

    def test_askings_refuse_strange_names(self):
        F = frame_of([("a", 0, 0), ("b", 1, 0)], [("ab", "a", "b")])
        for name in ("", "ab", "A"):
            self.assert_unchanged(F, NoPin, {"pin": name}, F.place, name)
            self.assert_unchanged(F, NoPin, {"pin": name}, F.ways, name)
        for name in ("", "a", "Ab"):
            self.assert_unchanged(F, NoBar, {"bar": name}, F.ends, name)

    def test_behind_a_taking_the_same_can_be_put(self):
        F = frame_of([("a", 0, 0, Fixed()), ("b", 1, 0)], [("ab", "a", "b")])
        before = snapshot(F)
        F.take_bar("ab")
        self.assert_unchanged(F, NoBar, {"bar": "ab"}, F.ends, "ab")
        F.take_pin("b")
        self.assert_unchanged(F, NoPin, {"pin": "b"}, F.place, "b")
        self.assert_unchanged(F, NoPin, {"pin": "b"}, F.ways, "b")
        F.put_pin("b", ONE, NOUGHT)
        F.put_bar("ab", "a", "b")
        self.assertEqual(snapshot(F), before)
        F.take_bar("ab")
        F.take_pin("a")
        F.put_pin("other", NOUGHT, NOUGHT)
        self.assertEqual(F.ways("other"), [])

    def test_two_frames_share_nothing(self):
        one, other = Frame(), Frame()
        hold = Fixed()
        one.put_pin("a", NOUGHT, NOUGHT, hold)
        one.put_pin("b", ONE, NOUGHT, hold)
        one.put_bar("ab", "a", "b")
        self.assertEqual(snapshot(other), ([], []))
        other.put_pin("a", ONE, NOUGHT)
        other.put_pin("b", NOUGHT, NOUGHT)
        other.put_bar("ab", "b", "a")
        one.take_bar("ab")
        one.take_pin("a")
        self.assertEqual(snapshot(other), ([("a", (ONE, NOUGHT), []), ("b", (NOUGHT, NOUGHT), [])], [("ab", ("b", "a"))]))
        self.assertEqual(snapshot(Frame()), ([], []))

    def test_a_change_of_what_was_told_changes_nothing(self):
        F = frame_of([("a", 0, 0, Fixed()), ("b", 1, 0), ("c", 1, 4, roller(1, 2))], [("ab", "a", "b"), ("x", "b", "a")])
        before = snapshot(F)
        for ask in (F.pins, F.bars, lambda: F.ways("a"), lambda: F.ways("b"), lambda: F.ways("c")):
            self.assertIsNot(ask(), ask())
            told = ask()
            told.append("more")
            told[0] = "other"
            self.assertEqual(snapshot(F), before)
            ask().clear()
            self.assertEqual(snapshot(F), before)

    def test_what_was_told_stays_as_it_was(self):
        F = frame_of([("a", 0, 0, Fixed()), ("b", 1, 0)], [("ab", "a", "b")])
        pins, bars, ways = F.pins(), F.bars(), F.ways("a")
        F.take_bar("ab")
        F.take_pin("a")
        F.put_pin("c", whole(5), whole(5))
        self.assertEqual((pins, bars, ways), (["a", "b"], ["ab"], [RIGHT, UP]))

    def test_a_hold_may_serve_two_pins(self):
        hold = Roller(ONE, HALF)
        F = frame_of([("a", 0, 0, hold), ("b", 1, 0, hold)])
        F.ways("a").clear()
        F.take_pin("a")
        self.assertEqual(F.ways("b"), [(ONE, HALF)])
        self.assertEqual(hold.ways(), [(ONE, HALF)])

    def test_names_of_arguments(self):
        words = {"put_pin": "(self, name, x, y, hold=None)", "put_bar": "(self, name, one, other)",
                 "take_bar": "(self, name)", "take_pin": "(self, name)", "pins": "(self)", "bars": "(self)",
                 "place": "(self, pin)", "ways": "(self, pin)", "ends": "(self, bar)"}
        for name, due in words.items():
            with self.subTest(name):
                self.assertEqual(str(inspect.signature(getattr(Frame, name))), due)
        self.assertEqual(str(inspect.signature(Frame)), "()")


if __name__ == "__main__":
    unittest.main()
