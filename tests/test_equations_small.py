"""Equations on small clocks, held against all sets and the definitions."""

import unittest
from itertools import combinations

from hoursums.equations import greatest, least_solutions, slack, solvable, tilings
from hoursums.hours import Hours
from plain import bits, divisors, is_kept, period, subsets, sum_table, sums, turned, units


def all_hours(clock):
    """All sets of the clock, at the index of their bits."""
    return [Hours(clock, tuple([hour for hour in range(clock) if mask >> hour & 1])) for mask in range(1 << clock)]


def is_least(row, goal, mask):
    """Whether the sums with the set, as bits, are the goal, but are not without any one of its hours."""
    return row[mask] == goal and all([row[mask ^ 1 << k] != goal for k in range(mask.bit_length()) if mask >> k & 1])


def tiles(clock, hours, row):
    return sorted([(a + x) % clock for a in hours for x in row]) == list(range(clock))


def all_tilings(clock, hours):
    """All sets with the hour 0 that tile, gone through one by one, ascending."""
    return sorted([(0, *rest) for size in range(clock) for rest in combinations(range(1, clock), size)
                   if tiles(clock, hours, (0, *rest))])


def kneser(clock, a, b):
    """The slack by its definition."""
    total = sums(clock, a, b)
    p = period(clock, total)
    multiples = range(0, clock, p)
    return len(total) - (len(sums(clock, a, multiples)) + len(sums(clock, b, multiples)) - clock // p)


class WithinTest(unittest.TestCase):
    def test_greatest_and_solvable_for_all_pairs(self):
        for clock in range(1, 7):
            values = all_hours(clock)
            for one, row in enumerate(sum_table(clock)):
                for other in range(1 << clock):
                    within = [mask for mask, told in enumerate(row) if told & ~other == 0]
                    most = greatest(values[one], values[other])
                    self.assertIn(bits(most.hours), within)
                    self.assertTrue(all([mask & ~bits(most.hours) == 0 for mask in within]))
                    self.assertIs(solvable(values[one], values[other]), other in row)

    def test_least_solutions_for_all_pairs(self):
        for clock in range(1, 7):
            values = all_hours(clock)
            for one, row in enumerate(sum_table(clock)):
                for other in range(1 << clock):
                    told = [values[mask] for mask in range(1 << clock) if is_least(row, other, mask)]
                    expected = tuple(sorted(told, key=lambda solution: solution.hours))
                    self.assertEqual(least_solutions(values[one], values[other]), expected)

    def test_least_solutions_on_a_clock_of_14_hours(self):
        values = all_hours(14)
        for a, x in (((0, 1), (0, 2, 5)), ((0, 3, 10), range(14)), ((0, 7), (1, 2, 8)), ((2, 3, 7, 8), (0, 1, 6, 9)),
                     ((0, 2, 4, 6, 8, 10, 12), (0, 1)), ((5,), (0, 3))):
            row = [0] * (1 << 14)
            for mask in range(1, 1 << 14):
                low = mask & -mask
                row[mask] = row[mask ^ low] | turned(14, bits(a), low.bit_length() - 1)
            goal = row[bits(x)]
            told = [values[mask] for mask in range(1 << 14) if is_least(row, goal, mask)]
            expected = tuple(sorted(told, key=lambda solution: solution.hours))
            self.assertEqual(least_solutions(Hours(14, a), values[goal]), expected)


class TilingsTest(unittest.TestCase):
    def test_tilings_of_all_sets(self):
        for clock in range(1, 9):
            for hours in subsets(clock):
                told = [tiling.hours for tiling in tilings(Hours(clock, hours))]
                self.assertEqual(told, all_tilings(clock, hours) if hours else [])

    def test_tilings_on_a_clock_of_12_hours(self):
        for size in (2, 3, 4, 6):
            for rest in combinations(range(1, 12), size - 1):
                told = [tiling.hours for tiling in tilings(Hours(12, (0, *rest)))]
                expected = [(0, *row) for row in combinations(range(1, 12), 12 // size - 1)
                            if tiles(12, (0, *rest), (0, *row))]
                self.assertEqual(told, expected)

    def test_sizes_that_do_not_divide_the_clock(self):
        for clock in (7, 10, 12):
            for size in range(2, clock):
                for rest in combinations(range(1, 7), min(size, 7) - 1):
                    if clock % (len(rest) + 1) != 0:
                        self.assertEqual(tilings(Hours(clock, (0, *rest))), ())

    def test_sets_without_the_hour_0(self):
        for hours in ((1, 2), (3, 5, 10), (5, 6, 11), (2, 3, 8, 9)):
            told = [tiling.hours for tiling in tilings(Hours(12, hours))]
            self.assertEqual(told, all_tilings(12, hours))


class SlackTest(unittest.TestCase):
    def test_slack_of_all_pairs(self):
        for clock in range(1, 7):
            for a in subsets(clock)[1:]:
                for b in subsets(clock)[1:]:
                    told = slack(Hours(clock, a), Hours(clock, b))
                    self.assertEqual(told, kneser(clock, a, b))
                    self.assertGreaterEqual(told, 0)

    def test_slack_of_all_sets_with_themselves_and_others(self):
        for clock in (8, 9, 10):
            for a in subsets(clock)[1:]:
                for b in (a, (0, 1), (0, clock // 2), (0, 3, 4)):
                    told = slack(Hours(clock, a), Hours(clock, b))
                    self.assertEqual(told, kneser(clock, a, b))
                    self.assertGreaterEqual(told, 0)

    def test_period_is_the_least_of_the_moves_that_leave_a_set(self):
        for clock in range(1, 9):
            for a in subsets(clock):
                step = Hours(clock, a).period()
                self.assertIn(step, divisors(clock))
                self.assertEqual([by for by in range(clock) if is_kept(clock, a, by)], list(range(0, clock, step)))


class MovedTest(unittest.TestCase):
    """Sets moved, and sets multiplied by a number without a common divisor, keep what is told."""

    def pairs(self, clock):
        some = all_hours(clock)[1::5]
        return [(one, other) for one in some
                for other in some[::3] + [one + some[2], one + some[-3], Hours.whole(clock)]]

    def test_moved(self):
        for clock in (6, 9):
            for one, other in self.pairs(clock):
                for a, b in ((1, 0), (0, 1), (2, -5), (clock - 1, 3)):
                    first, second = one.moved(a), other.moved(b)
                    self.assertEqual(slack(first, second), slack(one, other))
                    self.assertEqual(greatest(first, second), greatest(one, other).moved(b - a))
                    self.assertEqual(solvable(first, second), solvable(one, other))
                    moved = [solution.moved(b - a).hours for solution in least_solutions(one, other)]
                    self.assertEqual([told.hours for told in least_solutions(first, second)], sorted(moved))
                    self.assertEqual(tilings(first), tilings(one))

    def test_multiplied(self):
        for clock in (8, 9):
            for one, other in self.pairs(clock):
                for factor in units(clock):
                    first, second = one * factor, other * factor
                    self.assertEqual(slack(first, second), slack(one, other))
                    self.assertEqual(greatest(first, second), greatest(one, other) * factor)
                    self.assertEqual(solvable(first, second), solvable(one, other))
                    turned_too = [(solution * factor).hours for solution in least_solutions(one, other)]
                    self.assertEqual([told.hours for told in least_solutions(first, second)], sorted(turned_too))
                    turned_too = [(tiling * factor).hours for tiling in tilings(one)]
                    self.assertEqual([told.hours for told in tilings(first)], sorted(turned_too))


if __name__ == "__main__":
    unittest.main()
