"""Points 13 and 14: rows of numbers, their products, mixed, solved and split."""

import copy
import inspect
import random
import unittest
from fractions import Fraction

from trussyard import solving
from trussyard.solving import mixed_rows, solve_rows, split_rows, times_row
from yards import Checks, HALF, NOUGHT, ONE, fraction, long_number, number, numbers, small_number, whole


def wholes(rows):
    return [numbers(row) for row in rows]


def product(row, xs):
    return sum((fraction(one) * fraction(other) for one, other in zip(row, xs)), Fraction(0))


def mixed(shares, rows, many):
    return [product(shares, [row[column] for row in rows]) for column in range(many)]


def random_rows(rng, deep, many, make):
    return [[make(rng) for column in range(many)] for row in range(deep)]


def dependent_rows(rng, deep, many, lead, make):
    """Rows that are all mixed of a few, some of them noughts or multiples of others."""
    leads = random_rows(rng, lead, many, make)
    rows = []
    for at in range(deep):
        shares = [rng.choice([NOUGHT, NOUGHT, ONE, whole(-2), (1, 3)]) for row in leads]
        rows.append(numbers(mixed(shares, leads, many)))
    return rows


def thin_number(rng):
    """Nought more often than not."""
    return small_number(rng) if rng.random() < 0.3 else NOUGHT


def cases():
    """Rows (name, rows, many): the shapes to solve and split."""
    rng = random.Random(13)
    told = [
        ("no rows, no columns", [], 0),
        ("no rows", [], 5),
        ("no columns", [[], [], []], 0),
        ("one number", [[(-3, 2)]], 1),
        ("one nought", [[NOUGHT]], 1),
        ("noughts", [[NOUGHT] * 4 for row in range(3)], 4),
        ("a column of noughts", wholes([[1, 0, 2], [3, 0, 4]]), 3),
        ("the first and last columns of noughts", wholes([[0, 1, 2, 0], [0, 3, 4, 0]]), 4),
        ("multiples", wholes([[1, 2, 3], [2, 4, 6], [-1, -2, -3]]), 3),
        ("a sum of others", wholes([[1, 2, 3], [4, 5, 6], [5, 7, 9]]), 3),
        ("like columns", wholes([[1, 1, 2, 1], [3, 3, 0, 3]]), 4),
        ("units turned about", wholes([[0, 0, 1], [0, 1, 0], [1, 0, 0]]), 3),
        ("a chain", wholes([[1, -1, 0, 0], [0, 1, -1, 0], [0, 0, 1, -1], [-1, 0, 0, 1]]), 4),
        ("one row of many", [[long_number(rng) for column in range(120)]], 120),
        ("one column of many", [[long_number(rng, 4)] for row in range(120)], 1),
        ("sixty figures", random_rows(rng, 4, 4, lambda source: long_number(source, 59)), 4),
    ]
    for deep, many in [(1, 4), (4, 1), (3, 3), (5, 5), (4, 7), (7, 4), (9, 9)]:
        told.append((f"small {deep} by {many}", random_rows(rng, deep, many, small_number), many))
        told.append((f"thin {deep} by {many}", random_rows(rng, deep, many, thin_number), many))
        told.append((f"long {deep} by {many}", random_rows(rng, deep, many, long_number), many))
        for lead in (1, 2, 3):
            rows = dependent_rows(rng, deep, many, lead, rng.choice([small_number, thin_number, long_number]))
            told.append((f"{deep} by {many} of {lead}", rows, many))
    for deep, many in [(30, 30), (20, 45), (45, 20)]:
        told.append((f"great {deep} by {many}", random_rows(rng, deep, many, thin_number), many))
        told.append((f"great {deep} by {many} of 9", dependent_rows(rng, deep, many, 9, thin_number), many))
    return told


def dues(rng, rows, many):
    """Lists due: noughts, one that has a solution, any, and one unlike noughts in a single row."""
    yield [NOUGHT] * len(rows)
    for make in (small_number, long_number):
        xs = [make(rng) for column in range(many)]
        yield [number(product(row, xs)) for row in rows]
        yield [make(rng) for row in rows]
    if rows:
        due = [NOUGHT] * len(rows)
        due[rng.randrange(len(rows))] = (-3, 7)
        yield due


class ProductsTest(Checks, unittest.TestCase):
    def test_products_written_out(self):
        self.assertEqual(times_row([], []), NOUGHT)
        self.assertEqual(times_row([HALF], [(2, 3)]), (1, 3))
        self.assertEqual(times_row(numbers([1, 2, 3]), numbers([4, 5, 6])), whole(32))
        self.assertEqual(times_row([HALF, (-1, 3)], [whole(2), whole(3)]), NOUGHT)
        self.assertEqual(times_row([(1, 6), (1, 10)], [ONE, ONE]), (4, 15))

    def test_products_of_all_lengths(self):
        rng = random.Random(1)
        for many in range(121):
            make = rng.choice([small_number, thin_number, long_number])
            row, xs = [make(rng) for at in range(many)], [make(rng) for at in range(many)]
            before = copy.deepcopy((row, xs))
            with self.subTest(many):
                self.assert_number(times_row(row, xs), product(row, xs))
                self.assertEqual((row, xs), before)

    def test_mixed_written_out(self):
        rows = wholes([[1, 2, 3], [4, 5, 6]])
        self.assertEqual(mixed_rows([HALF, whole(-1)], rows, 3), numbers([Fraction(-7, 2), -4, Fraction(-9, 2)]))
        self.assertEqual(mixed_rows([NOUGHT, NOUGHT], rows, 3), [NOUGHT] * 3)
        self.assertEqual(mixed_rows([whole(4), whole(-1)], rows, 3), numbers([0, 3, 6]))

    def test_mixed_of_none(self):
        self.assertEqual(mixed_rows([], [], 0), [])
        self.assertEqual(mixed_rows([], [], 3), [NOUGHT] * 3)
        self.assertEqual(mixed_rows([ONE, HALF], [[], []], 0), [])
        told = mixed_rows([], [], 2)
        told.append(ONE)
        self.assertEqual(mixed_rows([], [], 2), [NOUGHT] * 2)

    def test_mixed_of_many_rows(self):
        rng = random.Random(2)
        for name, rows, many in cases():
            for make in (small_number, long_number):
                shares = [make(rng) for row in rows]
                before = copy.deepcopy((shares, rows))
                with self.subTest(name):
                    told = mixed_rows(shares, rows, many)
                    self.assert_numbers(told, many)
                    self.assertEqual([fraction(one) for one in told], mixed(shares, rows, many))
                    self.assertEqual((shares, rows), before)

    def test_mixed_at_the_bounds(self):
        rng = random.Random(3)
        rows = random_rows(rng, 120, 120, small_number)
        shares = [long_number(rng, 5) for row in rows]
        told = mixed_rows(shares, rows, 120)
        self.assertEqual([fraction(one) for one in told], mixed(shares, rows, 120))


class SolveTest(Checks, unittest.TestCase):
    def assert_solved(self, rows, due, many):
        """Told is a solution or a paper, and what is told holds; there can't be the other one, too."""
        before = copy.deepcopy((rows, due))
        told = solve_rows(rows, due, many)
        self.assertEqual((rows, due), before)
        self.assertIs(type(told), tuple)
        self.assertEqual(len(told), 2)
        self.assertIn(told[0], ("solved", "paper"))
        if told[0] == "solved":
            self.assert_numbers(told[1], many)
            self.assertEqual([product(row, told[1]) for row in rows], [fraction(one) for one in due])
        else:
            self.assert_numbers(told[1], len(rows))
            self.assertEqual(mixed(told[1], rows, many), [0] * many)
            self.assertEqual(product(told[1], due), 1)
        return told

    def test_written_out(self):
        rows = wholes([[2, 1], [1, -1]])
        self.assertEqual(solve_rows(rows, numbers([5, 1]), 2), ("solved", numbers([2, 1])))
        self.assertEqual(solve_rows(wholes([[0]]), [whole(4)], 1), ("paper", [(1, 4)]))
        self.assertEqual(solve_rows([[(2, 3)]], [HALF], 1), ("solved", [(3, 4)]))

    def test_no_rows_or_no_columns(self):
        self.assertEqual(solve_rows([], [], 0), ("solved", []))
        self.assertEqual(self.assert_solved([], [], 3)[0], "solved")
        self.assertEqual(solve_rows([[], []], [NOUGHT, NOUGHT], 0), ("solved", []))
        self.assertEqual(solve_rows([[]], [(-2, 3)], 0), ("paper", [(-3, 2)]))
        self.assertEqual(self.assert_solved([[], [], []], [NOUGHT, ONE, HALF], 0)[0], "paper")

    def test_both_are_told(self):
        rows = wholes([[1, 2, 3], [2, 4, 6], [1, 0, 1]])
        self.assertEqual(self.assert_solved(rows, numbers([1, 2, 5]), 3)[0], "solved")
        self.assertEqual(self.assert_solved(rows, numbers([1, 3, 5]), 3)[0], "paper")
        self.assertEqual(self.assert_solved(rows, numbers([0, 0, 0]), 3)[0], "solved")
        more_rows = wholes([[1, 0], [0, 1], [1, 1]])
        self.assertEqual(self.assert_solved(more_rows, numbers([1, 2, 3]), 2)[0], "solved")
        self.assertEqual(self.assert_solved(more_rows, numbers([1, 2, 4]), 2)[0], "paper")

    def test_many_rows(self):
        rng = random.Random(4)
        seen = {"solved": 0, "paper": 0}
        for name, rows, many in cases():
            for due in dues(rng, rows, many):
                with self.subTest(name, due=due):
                    seen[self.assert_solved(rows, due, many)[0]] += 1
        self.assertGreater(seen["solved"], 50)
        self.assertGreater(seen["paper"], 50)

    def test_a_due_that_was_made_is_solved(self):
        rng = random.Random(5)
        for name, rows, many in cases():
            xs = [small_number(rng) for column in range(many)]
            with self.subTest(name):
                self.assertEqual(self.assert_solved(rows, [number(product(row, xs)) for row in rows], many)[0], "solved")

    def test_at_the_bounds(self):
        rng = random.Random(6)
        rows = random_rows(rng, 120, 120, thin_number)
        self.assert_solved(rows, [small_number(rng) for row in rows], 120)
        rows[119] = numbers(mixed([ONE] * 119, rows[:119], 120))
        self.assertEqual(self.assert_solved(rows, [NOUGHT] * 119 + [HALF], 120)[0], "paper")

    def test_what_is_told_is_the_asker_s_own(self):
        rows, due = wholes([[1, 0], [0, 1]]), numbers([3, 4])
        told = solve_rows(rows, due, 2)
        self.assertIsNot(told[1], due)
        told[1].clear()
        self.assertEqual(solve_rows(rows, due, 2), ("solved", numbers([3, 4])))
        self.assertEqual((rows, due), (wholes([[1, 0], [0, 1]]), numbers([3, 4])))


class SplitTest(Checks, unittest.TestCase):
    def assert_split(self, rows, many):
        before = copy.deepcopy(rows)
        told = split_rows(rows, many)
        self.assertEqual(rows, before)
        self.assertIs(type(told), tuple)
        spare, needed = told
        self.assertEqual([type(one) for one in told], [dict, dict])
        self.assertEqual(sorted(list(spare) + list(needed)), list(range(many)))
        self.assertEqual((list(spare), list(needed)), (sorted(spare), sorted(needed)))
        self.assertTrue(all(type(column) is int for column in list(spare) + list(needed)))
        for column, some in spare.items():
            self.assert_numbers(some, many)
            self.assertEqual(some[column], ONE)
            self.assertTrue(all(some[other] == NOUGHT for other in spare if other != column))
            self.assertTrue(all(some[other] == NOUGHT for other in range(column + 1, many)))
            self.assertEqual([product(row, some) for row in rows], [0] * len(rows))
        for column, shares in needed.items():
            self.assert_numbers(shares, len(rows))
            row = mixed(shares, rows, many)
            self.assertEqual([row[other] for other in needed], [int(other == column) for other in needed])
        return told

    def test_written_out(self):
        spare, needed = split_rows(wholes([[1, 2, 0, 3], [0, 0, 2, 4]]), 4)
        self.assertEqual(spare, {1: numbers([-2, 1, 0, 0]), 3: numbers([-3, 0, -2, 1])})
        self.assertEqual(needed, {0: [ONE, NOUGHT], 2: [NOUGHT, HALF]})

    def test_no_rows_or_no_columns(self):
        self.assertEqual(split_rows([], 0), ({}, {}))
        self.assertEqual(split_rows([[], []], 0), ({}, {}))
        units = {0: [ONE, NOUGHT, NOUGHT], 1: [NOUGHT, ONE, NOUGHT], 2: [NOUGHT, NOUGHT, ONE]}
        self.assertEqual(split_rows([], 3), (units, {}))
        self.assertEqual(split_rows([[NOUGHT] * 3], 3), (units, {}))

    def test_a_column_of_noughts_is_spare_by_itself(self):
        spare, needed = self.assert_split(wholes([[1, 0, 2], [3, 0, 4]]), 3)
        self.assertEqual(spare, {1: [NOUGHT, ONE, NOUGHT]})
        self.assertEqual(list(needed), [0, 2])

    def test_many_rows(self):
        for name, rows, many in cases():
            with self.subTest(name):
                self.assert_split(rows, many)

    def test_at_the_bounds(self):
        rows = random_rows(random.Random(7), 120, 120, thin_number)
        for at in (30, 60, 119):
            rows[at] = rows[at - 1]
        for row in rows:
            row[50] = row[20]
        spare, needed = split_rows(rows, 120)
        self.assertEqual(sorted(list(spare) + list(needed)), list(range(120)))
        self.assertIn(50, spare)
        for column, some in spare.items():
            self.assertEqual([product(row, some) for row in rows], [0] * 120)
        for column in list(needed)[::40]:
            row = mixed(needed[column], rows, 120)
            self.assertEqual([row[other] for other in needed], [int(other == column) for other in needed])

    def test_the_lists_told_are_new_each_time(self):
        rows = wholes([[1, 2, 0], [0, 0, 2]])
        before = copy.deepcopy(rows)
        first = split_rows(rows, 3)
        due = copy.deepcopy(first)
        for told in first:
            for some in told.values():
                some.clear()
            told.clear()
        self.assertEqual(split_rows(rows, 3), due)
        self.assertEqual(rows, before)


class NamesTest(unittest.TestCase):
    def test_names_of_arguments(self):
        for name, due in [("times_row", "(row, xs)"), ("mixed_rows", "(shares, rows, many)"),
                          ("solve_rows", "(rows, due, many)"), ("split_rows", "(rows, many)")]:
            with self.subTest(name):
                self.assertEqual(str(inspect.signature(getattr(solving, name))), due)


if __name__ == "__main__":
    unittest.main()
