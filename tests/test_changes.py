"""Points 19 and 20: bars about to be put in or taken out."""

import copy
import inspect
import random
import unittest

from trussyard import changes
from trussyard.changes import would_put, would_take
from trussyard.errors import BarThere, NoBar, NoLength, NoPin, TooMany
from trussyard.motions import counts_of
from trussyard.rests import rest_of
from yards import (Checks, ONE, braced_square, crowd, fraction, frame_of, frames, in_line, lattice, lengthenings_due,
                   long_number, random_load, snapshot, square, triangle, twins, work_due)


def changed_counts(counts, bars, spare, free):
    return (counts[0], counts[1], counts[2] + bars, counts[3] + spare, counts[4] + free)


class ChangesTest(Checks, unittest.TestCase):
    def assert_put(self, F, name, one, other):
        """One of the two is told of the bar, and holds; the bar is put in then. Told is which of them."""
        before, counts = snapshot(F), counts_of(F)
        told = would_put(F, name, one, other)
        self.assertEqual(snapshot(F), before)
        self.assertIs(type(told), tuple)
        self.assertIn(told[0], ("stiffer", "spare"))
        if told[0] == "stiffer":
            self.assertEqual(len(told), 2)
            self.assert_own_motion(F, told[1])
        F.put_bar(name, one, other)
        if told[0] == "stiffer":
            self.assertEqual(lengthenings_due(F, told[1])[name], 1)
            self.assertEqual(counts_of(F), changed_counts(counts, 1, 0, -1))
        else:
            self.assertEqual(len(told), 3)
            self.assert_keeps_rest(F, told[1], told[2], {})
            self.assertEqual(told[1][name], ONE)
            self.assertEqual(counts_of(F), changed_counts(counts, 1, 1, 0))
        return told[0]

    def assert_take(self, F, name):
        """One of the two is told of the bar, and holds; the bar is taken out then. Told is which of them."""
        before, counts = snapshot(F), counts_of(F)
        told = would_take(F, name)
        self.assertEqual(snapshot(F), before)
        self.assertIs(type(told), tuple)
        self.assertIn(told[0], ("looser", "less"))
        if told[0] == "looser":
            self.assertEqual(len(told), 2)
            self.assert_keeps_holds(F, told[1])
            self.assertEqual(lengthenings_due(F, told[1]), {bar: int(bar == name) for bar in F.bars()})
        else:
            self.assertEqual(len(told), 3)
            self.assert_keeps_rest(F, told[1], told[2], {})
            self.assertEqual(told[1][name], ONE)
        F.take_bar(name)
        self.assertEqual(counts_of(F), changed_counts(counts, -1, 0, 1) if told[0] == "looser"
                         else changed_counts(counts, -1, -1, 0))
        return told[0]

    def test_put_written_out(self):
        F = frame_of([("a", 0, 0), ("b", 2, 0)])
        self.assertEqual(self.assert_put(F, "x", "a", "b"), "stiffer")
        self.assertEqual(would_put(F, "y", "b", "a"), ("spare", {"x": (-1, 1), "y": ONE}, {"a": [], "b": []}))
        self.assertEqual(list(would_put(F, "a", "b", "a")[1]), ["x", "a"])
        self.assertEqual(self.assert_put(F, "y", "b", "a"), "spare")

    def test_put_stiffer_and_spare(self):
        F = square()
        self.assertEqual(self.assert_put(F, "ac", "a", "c"), "stiffer")
        self.assertEqual(self.assert_put(F, "bd", "b", "d"), "spare")
        self.assertEqual(self.assert_put(F, "db", "d", "b"), "spare")
        F = in_line()
        self.assertEqual(self.assert_put(F, "more", "a", "b"), "spare")

    def test_take_written_out(self):
        F = frame_of([("a", 0, 0), ("b", 2, 0)], [("x", "a", "b"), ("y", "b", "a")])
        self.assertEqual(would_take(F, "x"), ("less", {"x": ONE, "y": (-1, 1)}, {"a": [], "b": []}))
        self.assertEqual(would_take(F, "y"), ("less", {"x": (-1, 1), "y": ONE}, {"a": [], "b": []}))
        self.assertEqual(self.assert_take(F, "x"), "less")
        self.assertEqual(self.assert_take(F, "y"), "looser")

    def test_take_looser_and_less(self):
        F = braced_square()
        for bar in F.bars():
            self.assertEqual(would_take(F, bar)[0], "less")
        self.assertEqual(self.assert_take(F, "cd"), "less")
        for bar in F.bars():
            self.assertEqual(would_take(F, bar)[0], "looser")
        self.assertEqual(self.assert_take(F, "ab"), "looser")
        F = twins()
        self.assertEqual([would_take(F, bar)[0] for bar in F.bars()],
                         ["less", "looser", "less", "less", "less", "less"])

    def test_puts_into_many_frames(self):
        seen = {"stiffer": 0, "spare": 0}
        for at, (name, F) in enumerate(frames()):
            rng = random.Random(at)
            for step in range(3):
                if 1 < len(F.pins()) and len(F.bars()) < 60:
                    with self.subTest(name, step=step):
                        seen[self.assert_put(F, f"new {step}", *rng.sample(F.pins(), 2))] += 1
        self.assertGreater(seen["stiffer"], 15)
        self.assertGreater(seen["spare"], 15)

    def test_takes_out_of_many_frames(self):
        seen = {"looser": 0, "less": 0}
        for at, (name, F) in enumerate(frames()):
            rng = random.Random(at)
            for step in range(min(3, len(F.bars()))):
                with self.subTest(name, step=step):
                    seen[self.assert_take(F, rng.choice(F.bars()))] += 1
        self.assertGreater(seen["looser"], 15)
        self.assertGreater(seen["less"], 15)

    def test_every_bar_of_some_frames(self):
        for make in (triangle, twins, crowd, lambda: lattice(48)):
            F = make()
            for bar in F.bars():
                with self.subTest(bar):
                    told = would_take(F, bar)
                    F.take_bar(bar)
                    again = would_put(F, bar, *make().ends(bar))
                    self.assertEqual((told[0], again[0]) in (("looser", "stiffer"), ("less", "spare")), True)
                    F.put_bar(bar, *make().ends(bar))

    def test_a_looser_one_s_motion_tells_its_pull(self):
        seen = 0
        for at, (name, F) in enumerate(frames()):
            load = random_load(random.Random(at), F, lambda source: long_number(source, 10))
            told = rest_of(F, load)
            if told[0] == "rest":
                for bar in F.bars()[:8]:
                    change = would_take(F, bar)
                    if change[0] == "looser":
                        seen += 1
                        with self.subTest(name, bar=bar):
                            self.assertEqual(work_due(load, change[1]), fraction(told[1][bar]))
        self.assertGreater(seen, 20)

    def test_put_s_refusals_in_order(self):
        F = crowd()
        before = snapshot(F)
        for error, fields, words in [
            (BarThere, {"bar": "7"}, ("7", "x", "y")), (BarThere, {"bar": "7"}, ("7", "a", "a")),
            (BarThere, {"bar": "7"}, ("7", "a", "b")), (NoPin, {"pin": "x"}, ("new", "x", "y")),
            (NoPin, {"pin": "x"}, ("new", "x", "x")), (NoPin, {"pin": "x"}, ("new", "x", "a")),
            (NoPin, {"pin": "y"}, ("new", "a", "y")), (NoLength, {"bar": "new"}, ("new", "a", "a")),
            (TooMany, {}, ("new", "a", "b")),
        ]:
            with self.subTest(words=words):
                self.assert_refused(error, fields, would_put, F, *words)
                self.assert_refused(error, fields, F.put_bar, *words)
                self.assertEqual(snapshot(F), before)
        F.take_bar("7")
        self.assertEqual(would_put(F, "7", "a", "b")[0], "spare")
        F = triangle()
        self.assert_refused(BarThere, {"bar": "ab"}, would_put, F, "ab", "a", "b")
        self.assert_refused(NoPin, {"pin": ""}, would_put, F, "new", "a", "")
        self.assert_refused(NoLength, {"bar": ""}, would_put, F, "", "c", "c")
        self.assert_refused(NoPin, {"pin": "a"}, would_put, frame_of([]), "new", "a", "a")

    def test_take_s_refusal(self):
        F = triangle()
        before = snapshot(F)
        for name in ("", "a", "AB", "ba", "new"):
            self.assert_refused(NoBar, {"bar": name}, would_take, F, name)
        self.assert_refused(NoBar, {"bar": "ab"}, would_take, frame_of([]), "ab")
        self.assertEqual(snapshot(F), before)
        F.take_bar("ab")
        self.assert_refused(NoBar, {"bar": "ab"}, would_take, F, "ab")

    def test_what_is_told_is_the_asker_s_own(self):
        F = braced_square()
        for ask in (lambda: would_put(F, "new", "a", "c"), lambda: would_take(F, "ab")):
            due = copy.deepcopy(ask())
            told = ask()
            told[2]["a"].clear()
            told[1].clear()
            told[2].clear()
            self.assertEqual(ask(), due)
        F = square()
        for ask in (lambda: would_put(F, "new", "a", "c"), lambda: would_take(F, "ab")):
            due = copy.deepcopy(ask())
            ask()[1].clear()
            self.assertEqual(ask(), due)

    def test_names_of_arguments(self):
        for name, due in [("would_put", "(F, name, one, other)"), ("would_take", "(F, name)")]:
            self.assertEqual(str(inspect.signature(getattr(changes, name))), due)


if __name__ == "__main__":
    unittest.main()
