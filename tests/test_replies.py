"""The texts of answers: point 31's parts, each written out."""

import unittest

from trussyard.replies import counts_text, reply_of
from yards import HALF, NOUGHT, ONE, pair, whole

PULLS = {"x": HALF, "y": whole(-3), "z": NOUGHT}
PUSHES = {"a": [HALF, whole(-2)], "b": [], "c": [(-7, 3)]}
MOTION = {"a": (HALF, whole(-2)), "b": pair(0, 0)}


class RepliesTest(unittest.TestCase):
    def test_each_reply(self):
        bars, holds, motion = "x=1/2 y=-3 z=0", "a:1/2,-2 c:-7/3", "a=1/2,-2 b=0,0"
        for told, due in [
            (("rest", PULLS, PUSHES), f"rest; {bars}; {holds}"),
            (("moves", MOTION), f"moves; {motion}"),
            (("bent", PULLS, PUSHES, MOTION), f"bent; {bars}; {holds}; {motion}"),
            (("most", HALF, PULLS, PUSHES, MOTION), f"most; 1/2; {bars}; {holds}; {motion}"),
            (("most", whole(4), PULLS, PUSHES, MOTION), f"most; 4; {bars}; {holds}; {motion}"),
            (("endless", PUSHES), f"endless; {holds}"),
            (("looser", MOTION), f"looser; {motion}"),
            (("less", PULLS, PUSHES), f"less; {bars}; {holds}"),
        ]:
            self.assertEqual(reply_of(told), due)

    def test_parts_without_signs(self):
        self.assertEqual(reply_of(("rest", {}, {"a": [], "b": []})), "rest; ; ")
        self.assertEqual(reply_of(("rest", {}, {"a": [ONE]})), "rest; ; a:1")
        self.assertEqual(reply_of(("rest", {"x": ONE}, {"a": []})), "rest; x=1; ")
        self.assertEqual(reply_of(("bent", {}, {}, {})), "bent; ; ; ")
        self.assertEqual(reply_of(("endless", {"a": []})), "endless; ")

    def test_counts(self):
        self.assertEqual(counts_text((0, 12, 3, 4, 5)), "0 12 3 4 5")


if __name__ == "__main__":
    unittest.main()
