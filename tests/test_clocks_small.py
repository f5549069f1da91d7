"""The numbers and rules of small clocks, held against all their sets and the definitions."""

import unittest

from hoursums.clocks import apart_rule, apart_size, fold_rule, least_fold, least_pair, least_sums
from hoursums.clocks import reach_rule, reach_size
from plain import bits, late_layer, layers, subsets, sum_table, sums

MOST = 10 ** 30


def all_layers(clock, many):
    """For each set the sums of 0, 1, .. summands, so many, as bits."""
    told = {}
    for hours in subsets(clock):
        told[hours] = [bits(row) for row in layers(clock, hours, many)]
    return told


def is_apart(rows, times):
    return rows[times] & rows[times + 1] == 0


class LeastTest(unittest.TestCase):
    def test_least_sums_of_all_pairs(self):
        for clock in range(1, 10):
            fewest = {}
            for one, row in enumerate(sum_table(clock)):
                for other, told in enumerate(row):
                    sizes = one.bit_count(), other.bit_count()
                    fewest[sizes] = min(fewest.get(sizes, clock), told.bit_count())
            for r in range(1, clock + 1):
                for s in range(1, clock + 1):
                    self.assertEqual(least_sums(clock, r, s), fewest[r, s])

    def test_least_sums_of_many_summands_of_all_sets(self):
        for clock in range(1, 12):
            rows = all_layers(clock, 9)
            for size in range(1, clock + 1):
                of_size = [rows[hours] for hours in rows if len(hours) == size]
                for times in range(9):
                    expected = min([row[times].bit_count() for row in of_size])
                    self.assertEqual(least_fold(clock, size, times), expected)

    def test_least_sums_of_ever_so_many_summands(self):
        for clock in range(1, 8):
            for size in range(1, clock + 1):
                of_size = [hours for hours in subsets(clock) if len(hours) == size]
                for times in (50, 51, MOST - 1, MOST):
                    expected = min([len(late_layer(clock, hours, times)) for hours in of_size])
                    self.assertEqual(least_fold(clock, size, times), expected)


class ReachingTest(unittest.TestCase):
    def test_sizes_that_reach(self):
        for clock in range(1, 12):
            rows = all_layers(clock, 13)
            whole = (1 << clock) - 1
            for times in range(1, 13):
                short = [len(hours) for hours in rows if rows[hours][times] != whole]
                self.assertEqual(reach_size(clock, times), max(short) + 1)

    def test_sizes_that_reach_with_ever_so_many_summands(self):
        for clock in range(1, 8):
            for times in (50, 51, MOST - 1, MOST):
                short = [len(hours) for hours in subsets(clock) if len(late_layer(clock, hours, times)) < clock]
                self.assertEqual(reach_size(clock, times), max(short) + 1)


class ApartTest(unittest.TestCase):
    def test_most_hours_apart(self):
        for clock in range(1, 12):
            rows = all_layers(clock, 10)
            for times in range(1, 9):
                apart = [len(hours) for hours in rows if is_apart(rows[hours], times)]
                self.assertEqual(apart_size(clock, times), max(apart))

    def test_most_hours_apart_for_ever_so_many_summands(self):
        for clock in range(1, 8):
            for times in (50, 51, MOST - 1, MOST):
                apart = [len(hours) for hours in subsets(clock)
                         if not set(late_layer(clock, hours, times)) & set(late_layer(clock, hours, times + 1))]
                self.assertEqual(apart_size(clock, times), max(apart))


class RulesTest(unittest.TestCase):
    def test_pairs_have_just_so_many_sums(self):
        for clock in range(1, 25):
            for r in range(1, clock + 1):
                for s in range(1, clock + 1):
                    one, other = [rule.listed().hours for rule in least_pair(clock, r, s)]
                    self.assertEqual((len(one), len(other)), (r, s))
                    self.assertEqual(len(sums(clock, one, other)), least_sums(clock, r, s))

    def test_sets_have_just_so_many_sums_of_many_summands(self):
        for clock in range(1, 31):
            for size in range(1, clock + 1):
                for times in (0, 1, 2, 3, 4, 7, 29, MOST):
                    hours = fold_rule(clock, size, times).listed().hours
                    self.assertEqual(len(hours), size)
                    self.assertEqual(len(late_layer(clock, hours, times)), least_fold(clock, size, times))

    def test_sets_with_one_hour_less_do_not_reach(self):
        for clock in range(1, 61):
            for times in (1, 2, 3, 4, 7, 29, 60, MOST):
                hours = reach_rule(clock, times).listed().hours
                self.assertEqual(len(hours), reach_size(clock, times) - 1)
                self.assertLess(len(late_layer(clock, hours, times)), clock)

    def test_sets_are_apart(self):
        for clock in range(1, 61):
            for times in (1, 2, 3, 4, 7, 29, 60, MOST):
                hours = apart_rule(clock, times).listed().hours
                self.assertEqual(len(hours), apart_size(clock, times))
                self.assertFalse(
                    set(late_layer(clock, hours, times)) & set(late_layer(clock, hours, times + 1)))

    def test_sets_on_the_greatest_clocks_that_are_listed(self):
        for clock in (239, 240):
            for r, s in ((7, 9), (16, 24), (100, 120), (clock, 1)):
                one, other = [rule.listed() for rule in least_pair(clock, r, s)]
                self.assertEqual((len(one), len(other), len(one + other)), (r, s, least_sums(clock, r, s)))
                self.assertEqual(len(fold_rule(clock, r, 3).listed().fold(3)), least_fold(clock, r, 3))
            for times in (1, 2, 3, 10, MOST):
                self.assertLess(len(reach_rule(clock, times).listed().fold(times)), clock)
            for times in (1, 2, 3, 10, MOST - 1):
                far = apart_rule(clock, times).listed()
                self.assertEqual((len(far), len(far.fold(times) & far.fold(times + 1))), (apart_size(clock, times), 0))


if __name__ == "__main__":
    unittest.main()
