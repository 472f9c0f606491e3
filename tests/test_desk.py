"""Point 31: the desk's rows, its answers and its refusals."""

import inspect
import random
import unittest

from trussyard.changes import would_take
from trussyard.desk import Desk
from trussyard.errors import (BarThere, NoBar, NoBound, NoGrip, NoLength, NoLine, NoLoad, NoPin, PinThere, TooMany,
                              YardError)
from trussyard.notes import read_frame, show_frame
from yards import Checks, frames, number, read_motion, read_pulls, read_pushes, snapshot, words_of, work_due

TRIANGLE = "pin a 0 0 fixed\npin b 4 0 roller 0 1\npin c 1 3\nbar ab a b\nbar bc b c\nbar ca c a"
SQUARE = ("pin a 0 0 fixed\npin b 1 0 roller 0 1\npin c 1 1\npin d 0 1\n"
          "bar ab a b\nbar bc b c\nbar cd c d\nbar da d a")
ROPE = "pin a 0 0 fixed\npin b 2 0 roller 0 1\nbar ab a b"
LONG = "b" * 50


def state(desk):
    """All that a desk answers of itself, loads, grips and bounds among it."""
    rows = ["frame", "counts", *[f"{ask} {name}" for ask in ("rest", "bend", "greatest") for name in ("l", "m", "new")]]
    return [answer(desk, row) for row in rows]


def answer(desk, row):
    """The answer, or how the row is refused."""
    try:
        return desk.say(row)
    except YardError as error:
        return (type(error).__name__, vars(error))


def told_desk():
    """A desk that has loads, and a grip and bounds of each bar."""
    desk = Desk(TRIANGLE)
    for row in ("load l c 0 -4", "load m b 1/2 0", "grip ab 1/2", "grip bc 3", "bound ab -1 1", "bound bc -1 1",
                "bound ca -1 1"):
        desk.say(row)
    return desk


class AnswersTest(Checks, unittest.TestCase):
    def assert_said(self, desk, *rows):
        """Rows (row, answer)."""
        for row, due in rows:
            with self.subTest(row):
                told = desk.say(row)
                self.assertIs(type(told), str)
                self.assertEqual(told, due)

    def test_put_and_take(self):
        desk = Desk(SQUARE)
        self.assert_said(desk, ("put ac a c", "stiffer"), ("put bd b d", "spare"), ("put db d b", "spare"),
                         ("take db", "less"), ("take ab", "less"), ("take cd", "looser"), ("put cd c d", "stiffer"),
                         ("frame", "pin a 0 0 fixed\npin b 1 0 roller 0 1\npin c 1 1\npin d 0 1\n"
                                   "bar bc b c\nbar da d a\nbar ac a c\nbar bd b d\nbar cd c d"))

    def test_load_and_rest(self):
        self.assert_said(Desk(TRIANGLE), ("load l c 0 -4", "ok"), ("rest l", "rest; ab=1/4 bc=-1/3 ca=-1; a:0,3 b:1"),
                         ("load l c 0 0", "ok"), ("rest l", "rest; ab=0 bc=0 ca=0; a:0,0 b:0"))
        self.assert_said(Desk("pin a 0 0 roller 1 0\npin b 1 1 fixed"), ("load l a 0 -4", "ok"),
                         ("rest l", "moves; a=0,-1/4 b=0,0"))

    def test_parts_without_signs(self):
        desk = Desk("pin a 0 0\npin b 1 0")
        self.assert_said(desk, ("load l a 0 0", "ok"), ("rest l", "rest; ; "), ("bend l", "bent; ; ; a=0,0 b=0,0"),
                         ("greatest l", "endless; "), ("put x a b", "stiffer"), ("rest l", "rest; x=0; "),
                         ("bar x", "looser; a=-1,0 b=0,0"), ("put y b a", "spare"), ("bar y", "less; x=-1 y=1; "))

    def test_grip_and_bend(self):
        self.assert_said(Desk(ROPE), ("load l b 1 7", "ok"), ("bend l", "bent; ab=1/2; a:-1,0 b:-7; a=0,0 b=1/4,0"),
                         ("grip ab 1/3", "ok"), ("bend l", "bent; ab=1/2; a:-1,0 b:-7; a=0,0 b=3/4,0"),
                         ("grip ab 2", "ok"), ("bend l", "bent; ab=1/2; a:-1,0 b:-7; a=0,0 b=1/8,0"))
        self.assert_said(Desk("pin a 0 0"), ("load l a 0 2", "ok"), ("bend l", "moves; a=0,1/2"))

    def test_bound_and_greatest(self):
        self.assert_said(Desk(ROPE), ("load l b 1 7", "ok"), ("bound ab -5 3/2", "ok"),
                         ("greatest l", "most; 3; ab=3/2; a:-3,0 b:-21; a=0,0 b=1,0"), ("bound ab -5 0", "ok"),
                         ("greatest l", "most; 0; ab=0; a:0,0 b:0; a=0,0 b=1,0"), ("load l b -1 7", "ok"),
                         ("greatest l", "most; 10; ab=-5; a:10,0 b:-70; a=0,0 b=-1,0"), ("load m b 0 -3", "ok"),
                         ("greatest m", "endless; a:0,0 b:3"))

    def test_counts(self):
        self.assert_said(Desk(""), ("counts", "0 0 0 0 0"))
        self.assert_said(Desk(TRIANGLE), ("counts", "3 3 3 0 0"), ("put more a b", "spare"), ("counts", "3 3 4 1 0"))
        self.assert_said(Desk(SQUARE), ("counts", "4 3 4 0 1"))

    def test_frame(self):
        self.assert_said(Desk(""), ("frame", ""))
        self.assert_said(Desk(TRIANGLE), ("frame", TRIANGLE))
        self.assert_said(Desk("piece p\npin n 1/2 0 roller -1 2\nend\nlay p q 0 0 2 1 0\nbar x q0n q1n"),
                         ("frame", "pin q0n 1/2 0 roller -1 2\npin q1n 3/2 0 roller -1 2\nbar x q0n q1n"))

    def test_bar(self):
        desk = Desk(ROPE)
        self.assert_said(desk, ("bar ab", "looser; a=0,0 b=1/2,0"), ("put x b a", "spare"),
                         ("bar ab", "less; ab=1 x=-1; a:0,0 b:0"), ("bar x", "less; ab=-1 x=1; a:0,0 b:0"),
                         ("frame", ROPE + "\nbar x b a"))

    def test_names_of_one_desk_mean_what_they_stand_for(self):
        desk = Desk("pin bar 0 0 fixed\npin load 1 0 roller 0 1\nbar take bar load")
        self.assert_said(desk, ("load rest load 1 0", "ok"), ("rest rest", "rest; take=1; bar:-1,0 load:0"),
                         ("grip take 2", "ok"), ("bar take", "looser; bar=0,0 load=1,0"), ("take take", "looser"),
                         ("load frame load 0 1", "ok"), ("rest frame", "rest; ; bar:0,0 load:-1"),
                         ("load counts load 0 2", "ok"), ("rest counts", "rest; ; bar:0,0 load:-2"),
                         ("put frame bar load", "stiffer"), ("bar frame", "looser; bar=0,0 load=1,0"),
                         ("put bar bar load", "spare"), ("take frame", "less"), ("take bar", "looser"))

    def test_long_names(self):
        desk = Desk(f"piece p\npin {'n' * 20} 0 0\npin m 0 1\nend\nlay p {'q' * 20} 0 0\npin f 0 -1 fixed")
        pin, other = "q" * 20 + "n" * 20, "q" * 20 + "m"
        self.assert_said(desk, (f"put {LONG} {pin} {other}", "stiffer"), (f"load {LONG} {pin} 0 1", "ok"),
                         (f"rest {LONG}", f"moves; {pin}=0,1 {other}=0,1 f=0,0"), (f"grip {LONG} 2", "ok"),
                         (f"bound {LONG} -1 1", "ok"), (f"load {LONG} {other} 0 -1", "ok"),
                         (f"rest {LONG}", f"rest; {LONG}=-1; f:0,0"), (f"take {LONG}", "looser"),
                         (f"put {'9' * 100} {pin} f", "stiffer"))

    def test_answers_hold_for_many_frames(self):
        for at, (name, F) in enumerate(frames()):
            if name == "odd_names" or len(F.bars()) > 12:
                continue
            rng = random.Random(at)
            desk = Desk(show_frame(F))
            with self.subTest(name):
                self.assertEqual(desk.say("frame"), show_frame(F))
                for bar in F.bars():
                    self.assertEqual(desk.say(f"bar {bar}").split("; ")[0], would_take(F, bar)[0])
                load = {}
                for pin in rng.sample(F.pins(), (len(F.pins()) + 1) // 2):
                    load[pin] = (number(rng.randint(-3, 3)), number(rng.randint(-3, 3)))
                    self.assertEqual(desk.say(f"load l {pin} {load[pin][0][0]} {load[pin][1][0]}"), "ok")
                if load:
                    self.assert_rest(F, load, desk.say("rest l"))

    def assert_rest(self, F, load, told):
        """The answer, read back, keeps rest or moves."""
        parts = told.split("; ")
        if parts[0] == "moves":
            self.assertEqual(work_due(load, read_motion(parts[1])), 1)
            self.assert_own_motion(F, read_motion(parts[1]))
            return
        self.assert_keeps_rest(F, read_pulls(parts[1]), read_pushes(F, parts[2]), load)
        held = [word.split(":")[0] for word in words_of(parts[2])]
        self.assertEqual(held, [pin for pin in F.pins() if F.ways(pin)])


class RefusalsTest(Checks, unittest.TestCase):
    def refused(self, error, fields, row, desk=None):
        """The row is refused, and nothing changes by it."""
        desk = desk or told_desk()
        before = state(desk)
        with self.subTest(row):
            self.assert_refused(error, fields, desk.say, row)
            self.assertEqual(state(desk), before)

    def test_a_desk_is_refused_as_its_text_is(self):
        for error, fields, text in [(NoLine, {"at": 0}, "x"), (NoLine, {"at": 1}, "pin a 0 0\n"),
                                    (NoLine, {"at": 0}, None), (NoLine, {"at": 1}, "piece p"),
                                    (PinThere, {"pin": "a"}, "pin a 0 0\npin a 1 1"),
                                    (NoPin, {"pin": "b"}, "pin a 0 0\nbar x a b"),
                                    (NoLength, {"bar": "x"}, "pin a 0 0\nbar x a a")]:
            self.assert_refused(error, fields, Desk, text)
            self.assert_refused(error, fields, read_frame, text)

    def test_rows_that_are_none(self):
        for row in ("", " ", "x", "put", "put x a", "put x a b c", "put x a  b", "put x a b ", " put x a b",
                    "put x\ta b", "put X a b", "put x A b", "put x a B", "put x_ a b", "put  a b", "take",
                    "take ab bc", "take ab ", "take AB", "load", "load l", "load l c", "load l c 1", "load l c 1 2 3",
                    "load L c 1 2", "load l C 1 2", "load l c 2/4 1", "load l c 1 -0", "load l c +1 1",
                    "load l c 01 1", "load l c x 1", "load l c 1 2\n", "load l c 1 " + "9" * 61, "grip", "grip ab",
                    "grip ab 1 2", "grip ab 3/1", "grip ab ab", "grip AB 1", "bound ab", "bound ab -1",
                    "bound ab -1 1 1", "bound ab -1 1/0", "bound ab -1 +1", "bound ab low 1", "counts ", "counts l",
                    " counts", "Counts", "count", "counts\n", "counts\ncounts", "frame ", "frame a", "frames", "rest",
                    "rest ", "rest l m", "rest L", "rest l ", "rest  l", "rest\tl", "bend", "bend l l", "bend l;",
                    "greatest", "greatest l l", "greatest l 1", "bar", "bar ab a b", "bar ab ", "bar A", "pin d 5 5",
                    "pin d 5 5 fixed", "take_pin a", "piece p", "end", "lay p q 0 0", "\u00e4", "rest \u00e4",
                    "rest \u0661", "load l c \u0661 1", "rest l\r", "PUT x a b", "ok", "bar=ab"):
            self.refused(NoLine, {"at": 0}, row)

    def test_things_that_are_no_text(self):
        for thing in (None, 0, True, b"counts", ["counts"], ("rest", "l"), {}, 1.5):
            self.refused(NoLine, {"at": 0}, thing)

    def test_a_row_that_is_none_goes_ahead(self):
        for row in ("load new z x 1", "grip z x", "grip z 01", "bound z 1 -0", "put ab z", "rest new new",
                    "load l z 2/4 0"):
            self.refused(NoLine, {"at": 0}, row)

    def test_put(self):
        for error, fields, row in [(BarThere, {"bar": "ab"}, "put ab z z"), (BarThere, {"bar": "ab"}, "put ab a b"),
                                   (NoPin, {"pin": "z"}, "put x z y"), (NoPin, {"pin": "y"}, "put x a y"),
                                   (NoPin, {"pin": LONG}, f"put x a {LONG}"), (NoLength, {"bar": "x"}, "put x a a")]:
            self.refused(error, fields, row)
        desk = Desk("pin a 0 0\npin b 1 0\n" + "\n".join(f"bar x{at} a b" for at in range(60)))
        self.assert_refused(TooMany, {}, desk.say, "put more a b")
        self.assert_refused(NoLength, {"bar": "more"}, desk.say, "put more a a")
        self.assertEqual(desk.say("take x7"), "less")
        self.assertEqual(desk.say("put more a b"), "spare")

    def test_take_and_bar(self):
        for word in ("take", "bar"):
            for name in ("z", "a", "0", LONG):
                self.refused(NoBar, {"bar": name}, f"{word} {name}")
        desk = told_desk()
        desk.say("take ab")
        for word in ("take", "bar"):
            self.assert_refused(NoBar, {"bar": "ab"}, desk.say, f"{word} ab")

    def test_load(self):
        for name in ("z", "ab", LONG):
            self.refused(NoPin, {"pin": name}, f"load l {name} 1 1")
            self.refused(NoPin, {"pin": name}, f"load new {name} 0 0")
        desk = told_desk()
        self.assert_refused(NoPin, {"pin": "z"}, desk.say, "load new z 0 0")
        self.assert_refused(NoLoad, {}, desk.say, "rest new")
        self.assertEqual(desk.say("load new a 0 0"), "ok")
        self.assertEqual(desk.say("rest new"), "rest; ab=0 bc=0 ca=0; a:0,0 b:0")

    def test_grip(self):
        for row, error in [("grip z 1", NoBar), ("grip z 0", NoBar), ("grip z -1", NoBar)]:
            self.refused(error, {"bar": "z"}, row)
        for row in ("grip ab 0", "grip ab -1", "grip ab -1/999999999"):
            self.refused(NoGrip, {"bar": "ab"}, row)
        self.refused(NoGrip, {"bar": "ca"}, "grip ca 0")

    def test_bound(self):
        for row in ("bound z -1 1", "bound z 1 2", "bound z -2 -1"):
            self.refused(NoBar, {"bar": "z"}, row)
        for row in ("bound bc 1 2", "bound bc 1/999999999 1", "bound bc -2 -1", "bound bc -1 -1/9", "bound bc 1 -1"):
            self.refused(NoBound, {"bar": "bc"}, row)
        desk = told_desk()
        for row in ("bound bc 0 0", "bound bc -1 0", "bound bc 0 1"):
            self.assertEqual(desk.say(row), "ok")
        # A bar's bounds are told though others have none yet.
        self.assertEqual(Desk(TRIANGLE).say("bound ca 0 0"), "ok")

    def test_no_load(self):
        for word in ("rest", "bend", "greatest"):
            for name in ("new", "ab", "c", LONG):
                self.refused(NoLoad, {}, f"{word} {name}")
            self.refused(NoLoad, {}, f"{word} l", Desk(TRIANGLE))

    def test_no_load_goes_ahead_of_no_bound(self):
        desk = Desk(TRIANGLE)
        self.assert_refused(NoLoad, {}, desk.say, "greatest l")
        desk.say("load l c 1 1")
        self.assert_refused(NoBound, {"bar": "ab"}, desk.say, "greatest l")
        desk.say("bound ab -1 1")
        self.assert_refused(NoBound, {"bar": "bc"}, desk.say, "greatest l")
        desk.say("bound ca -1 1")
        self.assert_refused(NoBound, {"bar": "bc"}, desk.say, "greatest l")
        desk.say("bound bc -1 1")
        self.assertEqual(desk.say("greatest l").split("; ")[0], "most")
        desk.say("load none a 0 0")
        self.assertEqual(desk.say("greatest none"), "endless; a:0,0 b:0")
        desk.say("put more a b")
        self.assert_refused(NoBound, {"bar": "more"}, desk.say, "greatest none")


class KeptTest(Checks, unittest.TestCase):
    def test_a_bar_taken_and_put_again_has_grip_1_and_no_bounds(self):
        desk = Desk(ROPE)
        for row in ("load l b 1 0", "grip ab 3", "bound ab -5 3/2", "take ab", "put ab a b"):
            desk.say(row)
        self.assertEqual(desk.say("bend l"), "bent; ab=1/2; a:-1,0 b:0; a=0,0 b=1/4,0")
        self.assert_refused(NoBound, {"bar": "ab"}, desk.say, "greatest l")
        self.assertEqual([desk.say(row) for row in ("bound ab 0 1", "grip ab 2")], ["ok", "ok"])
        self.assertEqual(desk.say("bend l"), "bent; ab=1/2; a:-1,0 b:0; a=0,0 b=1/8,0")
        self.assertEqual(desk.say("greatest l"), "most; 2; ab=1; a:-2,0 b:0; a=0,0 b=1,0")

    def test_other_bars_keep_theirs(self):
        desk = told_desk()
        before = [desk.say(row) for row in ("bend l", "greatest l")]
        for row in ("put more c a", "grip more 7", "bound more -9 9", "take more"):
            desk.say(row)
        self.assertEqual([desk.say(row) for row in ("bend l", "greatest l")], before)

    def test_loads_stay_as_they_were_told(self):
        desk = Desk("pin a 0 0 fixed\npin b 1 0 fixed\npin c 2 0")
        for row in ("load l a 1 0", "load l b 2 0", "load m a 5 5", "put x a b", "rest l", "bend l", "take x"):
            desk.say(row)
        self.assertEqual(desk.say("rest l"), "rest; ; a:-1,0 b:-2,0")
        self.assertEqual(desk.say("rest m"), "rest; ; a:-5,-5 b:0,0")
        self.assertEqual(desk.say("load l a 7 8"), "ok")
        self.assertEqual(desk.say("rest l"), "rest; ; a:-7,-8 b:-2,0")
        self.assertEqual(desk.say("load l a 0 0"), "ok")
        self.assertEqual(desk.say("rest l"), "rest; ; a:0,0 b:-2,0")
        self.assertEqual(desk.say("load l c 0 4"), "ok")
        self.assertEqual(desk.say("rest l"), "moves; a=0,0 b=0,0 c=0,1/4")

    def test_asking_changes_nothing(self):
        desk = told_desk()
        before = state(desk)
        for row in ("bar ab", "counts", "frame", "rest l", "bend m", "greatest l"):
            self.assertEqual(desk.say(row), desk.say(row))
        self.assertEqual(state(desk), before)

    def test_two_desks_share_nothing(self):
        one, other = Desk(ROPE), Desk(ROPE)
        for row in ("load l b 1 0", "grip ab 3", "bound ab -1 1", "put x a b", "take ab"):
            one.say(row)
        self.assertEqual(other.say("frame"), ROPE)
        self.assert_refused(NoLoad, {}, other.say, "rest l")
        other.say("load l b 1 0")
        self.assertEqual(other.say("bend l"), "bent; ab=1/2; a:-1,0 b:0; a=0,0 b=1/4,0")
        self.assert_refused(NoBound, {"bar": "ab"}, other.say, "greatest l")
        self.assertEqual(one.say("frame"), "pin a 0 0 fixed\npin b 2 0 roller 0 1\nbar x a b")
        self.assertEqual(Desk(ROPE).say("frame"), ROPE)

    def test_against_the_functions(self):
        desk, F = told_desk(), read_frame(TRIANGLE)
        for row in ("put x a c", "take ab", "put ab b a"):
            words = row.split(" ")
            desk.say(row)
            F.take_bar(words[1]) if words[0] == "take" else F.put_bar(*words[1:])
            self.assertEqual(snapshot(read_frame(desk.say("frame"))), snapshot(F))

    def test_names_of_arguments(self):
        self.assertEqual(str(inspect.signature(Desk)), "(text)")
        self.assertEqual(str(inspect.signature(Desk.say)), "(self, row)")


if __name__ == "__main__":
    unittest.main()
