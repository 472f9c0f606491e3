"""Point 6: holds and their ways; point 2: what is told is the asker's own."""

import inspect
import unittest

from trussyard.errors import NoWay
from trussyard.holds import Fixed, Hold, Roller

LONG = (10 ** 60 - 1, 10 ** 59)
WAYS = [((1, 1), (0, 1)), ((0, 1), (1, 1)), ((0, 1), (-1, 1)), ((-1, 2), (0, 1)), ((3, 4), (-5, 6)), (LONG, (1, 7)),
        ((2, 1), (4, 1)), ((0, 1), LONG)]
FIXED_WAYS = [((1, 1), (0, 1)), ((0, 1), (1, 1))]


def holds_and_ways():
    return [(Hold(), []), (Fixed(), FIXED_WAYS)] + [(Roller(*way), [way]) for way in WAYS]


class HoldsTest(unittest.TestCase):
    def test_ways(self):
        for hold, ways in holds_and_ways():
            with self.subTest(ways=ways):
                told = hold.ways()
                self.assertEqual(told, ways)
                self.assertIs(type(told), list)
                self.assertTrue(all(type(way) is tuple for way in told))

    def test_holds_are_holds(self):
        for hold, ways in holds_and_ways():
            with self.subTest(ways=ways):
                self.assertIsInstance(hold, Hold)
        self.assertEqual(Roller.__bases__, (Hold,))
        self.assertEqual(Fixed.__bases__, (Hold,))

    def test_roller_of_two_noughts_is_refused(self):
        with self.assertRaises(NoWay):
            Roller((0, 1), (0, 1))

    def test_each_list_is_a_new_one(self):
        for hold, ways in holds_and_ways():
            with self.subTest(ways=ways):
                first = hold.ways()
                self.assertIsNot(first, hold.ways())
                first.append("more")
                first[0] = "other"
                self.assertEqual(hold.ways(), ways)
                hold.ways().clear()
                self.assertEqual(hold.ways(), ways)

    def test_a_changed_list_changes_no_other_hold(self):
        for make, ways in [(Hold, []), (Fixed, FIXED_WAYS), (lambda: Roller((1, 2), (3, 4)), [((1, 2), (3, 4))])]:
            one, other = make(), make()
            with self.subTest(ways=ways):
                one.ways().append("more")
                told = one.ways()
                told.clear()
                self.assertEqual(other.ways(), ways)
                self.assertEqual(make().ways(), ways)

    def test_two_rollers_keep_their_own_ways(self):
        one, other = Roller((1, 1), (2, 1)), Roller((3, 1), (4, 1))
        self.assertEqual(one.ways(), [((1, 1), (2, 1))])
        self.assertEqual(other.ways(), [((3, 1), (4, 1))])

    def test_names_of_arguments(self):
        self.assertEqual(str(inspect.signature(Roller)), "(x, y)")
        self.assertEqual(str(inspect.signature(Hold)), "()")
        self.assertEqual(str(inspect.signature(Fixed)), "()")
        self.assertEqual(Roller(y=(1, 1), x=(0, 1)).ways(), [((0, 1), (1, 1))])


if __name__ == "__main__":
    unittest.main()
