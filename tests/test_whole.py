"""The whole: points 1, 2 and 3 over frames told by texts and rows, read back and held against one another."""

import random
import unittest
from fractions import Fraction

from trussyard.desk import Desk
from trussyard.giving import stored_of
from trussyard.greatest import price_of
from trussyard.motions import counts_of, motions_of, stays_of
from trussyard.notes import read_frame
from trussyard.rests import rest_of
from trussyard.spares import needs_of, spares_of
from yards import (Checks, ONE, forces_due, fraction, lengthenings_due, number, price_due, read_motion, read_pulls,
                   read_pushes, slips_due, snapshot, stored_due, times, work_due)

BRIDGE = """pin left 0 0 fixed
pin right 6 0 roller 0 1
piece bay
pin lowl 0 0
pin lowr 2 0
pin top 1 1
bar low lowl lowr
bar up lowl top
bar down top lowr
end
lay bay b 0 0 3 2 0
bar high01 b0top b1top
bar high12 b1top b2top"""
MAST = """pin foot 0 0 fixed
pin far 3 -1 fixed
pin head 1/2 4
pin arm 2 7/2
bar mast foot head
bar stay far head
bar jib head arm
bar tie far arm
bar twin arm far"""
LINKAGE = """piece link
pin a 0 0
pin b 1 2
bar ab a b
end
lay link p 0 0 4 1 2
pin ground 0 0
pin guide 4 8 roller 1 -1/2"""
LONE = "pin a 1/3 -2/7 roller 1 3\npin b 0 0"
TEXTS = {"bridge": BRIDGE, "mast": MAST, "linkage": LINKAGE, "lone": LONE, "nothing": ""}


class WholeTest(Checks, unittest.TestCase):
    def assert_desk(self, desk, grips, bounds, load):
        """All that the desk answers of its frame and the load l holds, read back."""
        F = read_frame(desk.say("frame"))
        self.assertEqual(desk.say("frame"), desk.say("frame"))
        self.assert_counts(F, desk.say("counts"))
        rest = self.assert_rest(F, load, desk.say("rest l").split("; "))
        bend = self.assert_bend(F, grips, load, desk.say("bend l").split("; "))
        self.assertEqual((rest, bend) in (("rest", "bent"), ("moves", "moves")), True)
        if len(F.bars()) <= 12:
            multiple = self.assert_greatest(F, bounds, load, desk.say("greatest l").split("; "))
            if rest == "moves":
                self.assertEqual(multiple, 0)
        for bar in F.bars():
            self.assert_bar(F, bar, desk.say(f"bar {bar}").split("; "))

    def assert_counts(self, F, told):
        """Point 18."""
        pins, ways, bars, spare, free = [int(word) for word in told.split(" ")]
        self.assertEqual((pins, bars), (len(F.pins()), len(F.bars())))
        self.assertEqual(ways, sum(len(F.ways(pin)) for pin in F.pins()))
        self.assertEqual(2 * pins - free, ways + bars - spare)
        self.assertEqual((spare, free), (len(spares_of(F)), len(motions_of(F))))
        self.assertEqual((bars - spare, 2 * pins - free), (len(needs_of(F)), len(stays_of(F))))
        self.assertEqual(counts_of(F), (pins, ways, bars, spare, free))

    def assert_rest(self, F, load, parts):
        """Points 12 and 15."""
        if parts[0] == "moves":
            return self.assert_moves(F, load, parts)
        self.assertEqual((parts[0], len(parts)), ("rest", 3))
        pulls, pushes = read_pulls(parts[1]), read_pushes(F, parts[2])
        self.assert_keeps_rest(F, pulls, pushes, load)
        for motion in motions_of(F).values():
            self.assertEqual(work_due(load, motion), 0)
        for motion in needs_of(F).values():
            longer = lengthenings_due(F, motion)
            self.assertEqual(work_due(load, motion), sum(fraction(pulls[bar]) * longer[bar] for bar in F.bars()))
        return "rest"

    def assert_moves(self, F, load, parts):
        self.assertEqual((parts[0], len(parts)), ("moves", 2))
        motion = read_motion(parts[1])
        self.assert_own_motion(F, motion)
        self.assertEqual(work_due(load, motion), 1)
        return "moves"

    def assert_bend(self, F, grips, load, parts):
        """Points 21 and 22."""
        if parts[0] == "moves":
            return self.assert_moves(F, load, parts)
        self.assertEqual((parts[0], len(parts)), ("bent", 4))
        pulls, pushes, moves = read_pulls(parts[1]), read_pushes(F, parts[2]), read_motion(parts[3])
        self.assert_keeps_rest(F, pulls, pushes, load)
        self.assert_keeps_holds(F, moves)
        for bar, longer in lengthenings_due(F, moves).items():
            self.assertEqual(fraction(pulls[bar]), fraction(grips.get(bar, ONE)) * longer)
        stored = fraction(stored_of(F, grips, pulls))
        self.assertEqual((stored, stored), (stored_due(F, grips, pulls), work_due(load, moves) / 2))
        other = rest_of(F, load)[1]
        apart = {bar: number(fraction(other[bar]) - fraction(pulls[bar])) for bar in F.bars()}
        self.assertEqual(stored_due(F, grips, other), stored + stored_due(F, grips, apart))
        return "bent"

    def assert_greatest(self, F, bounds, load, parts):
        """Point 26."""
        if parts[0] == "endless":
            self.assertEqual(len(parts), 2)
            self.assert_keeps_rest(F, {bar: (0, 1) for bar in F.bars()}, read_pushes(F, parts[1]), load)
            return None
        self.assertEqual((parts[0], len(parts)), ("most", 5))
        multiple, pulls, pushes = Fraction(parts[1]), read_pulls(parts[2]), read_pushes(F, parts[3])
        motion = read_motion(parts[4])
        self.assertGreaterEqual(multiple, 0)
        self.assert_keeps_rest(F, pulls, pushes, times(multiple, load))
        for bar in F.bars():
            self.assertTrue(fraction(bounds[bar][0]) <= fraction(pulls[bar]) <= fraction(bounds[bar][1]))
        self.assert_keeps_holds(F, motion)
        self.assertEqual((work_due(load, motion), price_due(F, bounds, motion)), (1, multiple))
        self.assertEqual(fraction(price_of(F, bounds, motion)), multiple)
        return multiple

    def assert_bar(self, F, bar, parts):
        """Point 20."""
        if parts[0] == "looser":
            motion = read_motion(parts[1])
            self.assert_keeps_holds(F, motion)
            self.assertEqual(lengthenings_due(F, motion), {other: int(other == bar) for other in F.bars()})
        else:
            self.assertEqual(parts[0], "less")
            pulls = read_pulls(parts[1])
            self.assert_keeps_rest(F, pulls, read_pushes(F, parts[2]), {})
            self.assertEqual(pulls[bar], ONE)

    def tell(self, desk, F, rng):
        """Tells grips, bounds and a load, and what was told."""
        grips, bounds, load = {}, {}, {}
        for bar in F.bars():
            low, high = -rng.randint(0, 9), Fraction(rng.randint(0, 9), 7)
            bounds[bar] = (number(low), number(high))
            self.assertEqual(desk.say(f"bound {bar} {low} {high}"), "ok")
            if rng.random() < 0.6:
                grip = Fraction(rng.randint(1, 99), rng.randint(1, 99))
                grips[bar] = number(grip)
                self.assertEqual(desk.say(f"grip {bar} {grip}"), "ok")
        for pin in F.pins():
            x, y = Fraction(rng.randint(-5, 5), 3), rng.choice([0, 0, rng.randint(-9, 9)])
            load[pin] = (number(x), number(y))
            self.assertEqual(desk.say(f"load l {pin} {x} {y}"), "ok")
        return grips, bounds, load

    def test_frames_told_by_texts(self):
        for name, text in TEXTS.items():
            if text:
                for seed in range(4):
                    desk = Desk(text)
                    with self.subTest(name, seed=seed):
                        told = self.tell(desk, read_frame(text), random.Random(seed))
                        self.assert_desk(desk, *told)

    def test_before_and_behind_every_change(self):
        seen = []
        for name, text in TEXTS.items():
            rng = random.Random(name)
            desk = Desk(text)
            for step in range(12):
                F = read_frame(desk.say("frame"))
                counts = counts_of(F)
                row = self.random_change(rng, F, step)
                if row is None:
                    continue
                with self.subTest(name, step=step):
                    told = desk.say(row)
                    seen.append(told)
                    due = {"stiffer": (0, 0, 1, 0, -1), "spare": (0, 0, 1, 1, 0), "looser": (0, 0, -1, 0, 1),
                           "less": (0, 0, -1, -1, 0)}[told]
                    G = read_frame(desk.say("frame"))
                    self.assertEqual(counts_of(G), tuple(one + more for one, more in zip(counts, due)))
                    self.assert_desk(desk, *self.tell_anew(desk, G, rng))
        self.assertEqual(sorted(set(seen)), ["less", "looser", "spare", "stiffer"])

    def random_change(self, rng, F, step):
        """A row that puts a bar in or takes one out, or None where there is nothing to do."""
        if len(F.pins()) > 1 and (not F.bars() or rng.random() < 0.5):
            return " ".join(["put", f"new{step}", *rng.sample(F.pins(), 2)])
        return f"take {rng.choice(F.bars())}" if F.bars() else None

    def tell_anew(self, desk, F, rng):
        """As tell, with a grip told of each bar, lest an old one be left."""
        for bar in F.bars():
            desk.say(f"grip {bar} 1")
        return self.tell(desk, F, rng)

    def test_what_one_load_does_on_the_moves_of_another(self):
        for text in (BRIDGE, MAST):
            desk = Desk(text)
            F = read_frame(text)
            rng = random.Random(text)
            loads = {}
            for name in ("one", "other"):
                loads[name] = {}
                for pin in F.pins():
                    x, y = rng.randint(-9, 9), rng.randint(-9, 9)
                    loads[name][pin] = (number(x), number(y))
                    desk.say(f"load {name} {pin} {x} {y}")
            for bar in F.bars()[::2]:
                desk.say(f"grip {bar} {rng.randint(1, 10 ** 9)}/{10 ** 9 + 7}")
            moves = {name: read_motion(desk.say(f"bend {name}").split("; ")[3]) for name in loads}
            self.assertEqual(work_due(loads["one"], moves["other"]), work_due(loads["other"], moves["one"]))

    def test_spare_needed_free_and_staying(self):
        """Points 3, 16 and 17."""
        for name, text in TEXTS.items():
            F = read_frame(text)
            spares, needs, free, stays = spares_of(F), needs_of(F), motions_of(F), stays_of(F)
            with self.subTest(name):
                self.assertEqual(sorted([*spares, *needs]), sorted(F.bars()))
                for bar, (pulls, pushes) in spares.items():
                    self.assert_keeps_rest(F, pulls, pushes, {})
                    self.assertEqual([pulls[other] for other in spares], [(int(other == bar), 1) for other in spares])
                for bar, motion in needs.items():
                    self.assert_keeps_holds(F, motion)
                    longer = lengthenings_due(F, motion)
                    self.assertEqual([longer[other] for other in needs], [int(other == bar) for other in needs])
                self.assertEqual(sorted([*free, *stays]), sorted((pin, axis) for pin in F.pins() for axis in (0, 1)))
                for two, motion in free.items():
                    self.assert_own_motion(F, motion)
                    self.assertEqual([motion[pin][axis] for pin, axis in free],
                                     [(int(two == other), 1) for other in free])
                for two, (pulls, pushes) in stays.items():
                    forces = forces_due(F, pulls, pushes)
                    self.assertEqual([forces[pin][axis] for pin, axis in stays], [int(two == other) for other in stays])

    def test_never_both(self):
        """Rest and a motion with work 1 can't go together: the work of what keeps rest on an own motion is nought."""
        for text in TEXTS.values():
            F = read_frame(text)
            rng = random.Random(text)
            for motion in motions_of(F).values():
                self.assertFalse(any(any(slip) for slip in slips_due(F, motion).values()))
                load = {pin: (number(rng.randint(-9, 9)), number(rng.randint(-9, 9))) for pin in F.pins()}
                told = rest_of(F, load)
                self.assertEqual(told[0] == "moves" or work_due(load, motion) == 0, True)

    def test_asking_leaves_the_frame_as_it_was(self):
        for text in TEXTS.values():
            F = read_frame(text)
            before = snapshot(F)
            for ask in (spares_of, needs_of, motions_of, stays_of, counts_of):
                ask(F)
            rest_of(F, {})
            self.assertEqual(snapshot(F), before)


if __name__ == "__main__":
    unittest.main()
