"""Points 17 and 18: free and staying pairs, and the counts; point 3: the sum that the counts come to."""

import copy
import inspect
import random
import unittest

from trussyard import motions
from trussyard.errors import YardError
from trussyard.holds import Fixed, Hold
from trussyard.motions import counts_of, motions_of, stays_of
from trussyard.spares import spares_of
from yards import (Checks, ONE, braced_square, changed, crowd, forces_due, fraction, frame_of, frames, in_line, lattice,
                   roller, snapshot, square, triangle, twins, whole)


class MotionsTest(Checks, unittest.TestCase):
    def assert_motions_and_stays(self, F):
        """Each pair is one of the two, with what shows it. Told are the free ones."""
        before = snapshot(F)
        free, stays = motions_of(F), stays_of(F)
        self.assertEqual(snapshot(F), before)
        pairs = [(pin, axis) for pin in F.pins() for axis in (0, 1)]
        self.assertEqual([type(free), type(stays)], [dict, dict])
        self.assertEqual(sorted(list(free) + list(stays)), sorted(pairs))
        self.assertEqual(list(free), [pair for pair in pairs if pair in free])
        self.assertEqual(list(stays), [pair for pair in pairs if pair in stays])
        for pair, motion in free.items():
            self.assert_own_motion(F, motion)
            self.assertEqual(motion[pair[0]][pair[1]], ONE)
            behind = pairs[pairs.index(pair) + 1:]
            for pin, axis in behind + [other for other in free if other != pair]:
                self.assertEqual(fraction(motion[pin][axis]), 0)
        for pair, told in stays.items():
            self.assertIs(type(told), tuple)
            pulls, pushes = told
            self.assert_pulls(pulls, F.bars())
            self.assert_pushes(F, pushes)
            forces = forces_due(F, pulls, pushes)
            self.assertEqual([forces[pin][axis] for pin, axis in stays], [int(other == pair) for other in stays])
        return list(free)

    def assert_counts(self, F):
        counts = counts_of(F)
        self.assertIs(type(counts), tuple)
        self.assertEqual([type(count) for count in counts], [int] * 5)
        self.assertEqual(counts, (len(F.pins()), sum(len(F.ways(pin)) for pin in F.pins()), len(F.bars()),
                                  len(spares_of(F)), len(motions_of(F))))
        self.assertEqual(2 * counts[0] - counts[4], counts[1] + counts[2] - counts[3])
        return counts

    def test_which_are_free(self):
        for F, due in [
            (frame_of([]), []),
            (frame_of([("a", 0, 0)]), [("a", 0), ("a", 1)]),
            (frame_of([("a", 0, 0, Hold())]), [("a", 0), ("a", 1)]),
            (frame_of([("a", 0, 0, Fixed())]), []),
            (frame_of([("a", 0, 0, roller(1, 0))]), [("a", 1)]),
            (frame_of([("a", 0, 0, roller(0, -3))]), [("a", 0)]),
            (frame_of([("a", 0, 0, roller(1, 1))]), [("a", 1)]),
            (triangle(), []),
            (in_line(), [("b", 1)]),
            (square(), [("d", 0)]),
            (braced_square(), []),
            (twins(), []),
            (frame_of([("a", 0, 0), ("b", 3, 4)], [("ab", "a", "b")]), [("a", 1), ("b", 0), ("b", 1)]),
        ]:
            with self.subTest(due=due):
                self.assertEqual(self.assert_motions_and_stays(F), due)

    def test_written_out(self):
        F = frame_of([("a", 0, 0, roller(1, 2))])
        self.assertEqual(motions_of(F), {("a", 1): {"a": (whole(-2), ONE)}})
        self.assertEqual(stays_of(F), {("a", 0): ({}, {"a": [ONE]})})
        F = frame_of([("a", 5, 5, Fixed())])
        self.assertEqual(motions_of(F), {})
        self.assertEqual(stays_of(F), {("a", 0): ({}, {"a": [ONE, (0, 1)]}), ("a", 1): ({}, {"a": [(0, 1), ONE]})})

    def test_many_frames(self):
        for name, F in frames():
            with self.subTest(name):
                self.assert_motions_and_stays(F)

    def test_where_none_is_free_each_stays_by_forces_there_alone(self):
        seen = 0
        for name, F in frames():
            if not motions_of(F):
                seen += 1
                with self.subTest(name):
                    stays = stays_of(F)
                    self.assertEqual(len(stays), 2 * len(F.pins()))
                    for pair, (pulls, pushes) in stays.items():
                        forces = forces_due(F, pulls, pushes)
                        self.assertEqual({(pin, axis): forces[pin][axis] for pin in forces for axis in (0, 1)},
                                         {other: int(other == pair) for other in stays})
        self.assertGreater(seen, 5)

    def test_counts_written_out(self):
        for F, due in [(frame_of([]), (0, 0, 0, 0, 0)), (frame_of([("a", 0, 0)]), (1, 0, 0, 0, 2)),
                       (frame_of([("a", 0, 0, roller(1, 1))]), (1, 1, 0, 0, 1)),
                       (frame_of([("a", 0, 0, Fixed())]), (1, 2, 0, 0, 0)), (triangle(), (3, 3, 3, 0, 0)),
                       (square(), (4, 3, 4, 0, 1)), (braced_square(), (4, 3, 6, 1, 0)), (in_line(), (3, 4, 2, 1, 1)),
                       (twins(), (3, 3, 6, 3, 0)), (lattice(), (24, 3, 60, 15, 0)), (lattice(45), (24, 3, 45, 0, 0))]:
            with self.subTest(due=due):
                self.assertEqual(self.assert_counts(F), due)

    def test_counts_of_many_frames(self):
        for name, F in frames():
            with self.subTest(name):
                self.assert_counts(F)

    def test_counts_before_and_behind_puts_and_takes(self):
        for seed in range(6):
            rng = random.Random(seed)
            F = frame_of([])
            for step in range(40):
                name = str(rng.randrange(8))
                try:
                    if rng.random() < 0.35:
                        hold = rng.choice([None, roller(1, rng.randint(-1, 1)), Fixed()])
                        F.put_pin(name, whole(rng.randrange(4)), whole(rng.randrange(4)), hold)
                    elif rng.random() < 0.7:
                        F.put_bar(name, str(rng.randrange(8)), str(rng.randrange(8)))
                    elif rng.random() < 0.5:
                        F.take_bar(name)
                    else:
                        F.take_pin(name)
                except YardError:
                    pass
                with self.subTest(seed, step=step):
                    self.assert_counts(F)
                    self.assert_motions_and_stays(F)

    def test_behind_changes(self):
        F = changed()
        self.assertEqual([pin for pin, axis in stays_of(F)][-1], "c")
        F.take_bar("da")
        self.assertEqual(self.assert_motions_and_stays(F), [("d", 1)])
        self.assertEqual(self.assert_counts(F), (4, 4, 4, 1, 1))
        self.assertEqual(self.assert_counts(crowd()), (3, 2, 60, 57, 1))

    def test_what_is_told_is_the_asker_s_own(self):
        F = square()
        due = copy.deepcopy([motions_of(F), stays_of(F)])
        told = motions_of(F)
        for motion in told.values():
            motion.clear()
        told.clear()
        told = stays_of(F)
        for pulls, pushes in told.values():
            pushes["a"].clear()
            pulls.clear()
            pushes.clear()
        told.clear()
        self.assertEqual([motions_of(F), stays_of(F)], due)

    def test_names_of_arguments(self):
        for name in ("motions_of", "stays_of", "counts_of"):
            self.assertEqual(str(inspect.signature(getattr(motions, name))), "(F)")


if __name__ == "__main__":
    unittest.main()
