"""Least sums, reaching and apart by the document's formulas: examples, great clocks, rules told, wrong values."""

import inspect
import unittest
from fractions import Fraction
from math import ceil

from hoursums import clocks
from hoursums.clocks import apart_rule, apart_size, fold_rule, least_fold, least_pair, least_sums
from hoursums.clocks import reach_rule, reach_size
from hoursums.errors import InvalidNumber, NoAnswer, TooMany, WrongValue
from hoursums.rules import Rule
from plain import NO_INTEGERS, divisors, fails

GREAT = 10 ** 9
MOST = 10 ** 30
PRIME = 999999937
TWICE_PRIME = 2 * 499999993
NAMES = {
    "least_sums": ["clock", "size", "other_size"], "least_pair": ["clock", "size", "other_size"],
    "least_fold": ["clock", "size", "times"], "fold_rule": ["clock", "size", "times"],
    "reach_size": ["clock", "times"], "reach_rule": ["clock", "times"],
    "apart_size": ["clock", "times"], "apart_rule": ["clock", "times"],
}
PAIRED, FOLDED = (least_sums, least_pair), (least_fold, fold_rule)
TIMED = (reach_size, reach_rule, apart_size, apart_rule)


def up(a, b):
    return ceil(Fraction(a, b))


def pair_number(n, r, s, d):
    return (up(r, d) + up(s, d) - 1) * d


def fold_number(n, r, h, d):
    return (h * up(r, d) - h + 1) * d


def reach_number(n, h, d):
    return d * up(n // d - 1, h)


def apart_number(n, h, d):
    return ((d - 2) // (2 * h + 1) + 1) * (n // d)


def first_with(best, number, clock, all_divisors, *args):
    """The least or the greatest number over the divisors, and the least divisor that tells it."""
    told = best([number(clock, *args, d) for d in all_divisors])
    return told, [d for d in all_divisors if number(clock, *args, d) == told][0]


def great_divisors():
    return sorted([2 ** a * 5 ** b for a in range(10) for b in range(10)])


class ExamplesTest(unittest.TestCase):
    def test_numbers(self):
        self.assertEqual(
            [least_sums(12, 4, 3), least_sums(13, 4, 3), least_sums(10 ** 9, 10 ** 8, 10 ** 8), least_fold(12, 5, 2),
             least_fold(13, 2, 10 ** 20)],
            [4, 6, 100000000, 6, 13])
        self.assertEqual(
            [reach_size(12, 2), reach_size(13, 3), apart_size(12, 1), apart_size(7, 1), apart_size(25, 2),
             apart_size(1, 1)],
            [7, 5, 6, 2, 5, 0])

    def test_rules(self):
        self.assertEqual(
            [str(least_pair(12, 4, 3)), str(reach_rule(12, 2)), str(apart_rule(7, 1)), 5 in apart_rule(7, 1),
             str(apart_rule(12, 1).listed())],
            ['(Rule 12 3 0 4, Rule 12 3 0 3)', '12 12 0 6', '7 7 2 2', False, '12: 1 3 5 7 9 11'])


class InterfaceTest(unittest.TestCase):
    def test_functions_are_defined_in_their_file(self):
        for name, parameters in NAMES.items():
            function = getattr(clocks, name)
            self.assertTrue(inspect.isfunction(function))
            self.assertEqual(function.__module__, "hoursums.clocks")
            self.assertEqual(list(inspect.signature(function).parameters), parameters)

    def test_by_name(self):
        for function in PAIRED:
            self.assertEqual(function(other_size=3, size=4, clock=12), function(12, 4, 3))
        for function in FOLDED:
            self.assertEqual(function(times=3, size=5, clock=12), function(12, 5, 3))
        for function in TIMED:
            self.assertEqual(function(times=2, clock=25), function(25, 2))

    def test_kinds_of_values(self):
        for number in (least_sums(12, 4, 3), least_fold(12, 5, 2), reach_size(12, 2), apart_size(12, 1)):
            self.assertIs(type(number), int)
        pair = least_pair(12, 4, 3)
        self.assertEqual((type(pair), [type(rule) for rule in pair]), (tuple, [Rule, Rule]))
        for rule in (fold_rule(12, 5, 2), reach_rule(12, 2), apart_rule(12, 1), apart_rule(1, 1)):
            self.assertIs(type(rule), Rule)

    def test_asked_again_the_same_is_told(self):
        for function in PAIRED + FOLDED:
            self.assertEqual(function(60, 7, 3), function(60, 7, 3))
        for function in TIMED:
            self.assertEqual(function(60, 3), function(60, 3))


class FormulasTest(unittest.TestCase):
    def test_least_sums_of_all_sizes(self):
        for n in range(1, 31):
            for r in range(1, n + 1):
                for s in range(1, n + 1):
                    told, d = first_with(min, pair_number, n, divisors(n), r, s)
                    self.assertEqual(least_sums(n, r, s), told)
                    self.assertEqual(least_pair(n, r, s), (Rule(n, n // d, 0, r), Rule(n, n // d, 0, s)))

    def test_least_sums_of_many_summands(self):
        for n in range(1, 41):
            for r in range(1, n + 1):
                for h in (0, 1, 2, 3, 4, 5, 7, 12, 50, 10 ** 20, MOST):
                    told, d = first_with(min, fold_number, n, divisors(n), r, h)
                    self.assertEqual(least_fold(n, r, h), told)
                    self.assertEqual(fold_rule(n, r, h), Rule(n, n // d, 0, r))

    def test_reaching(self):
        for n in range(1, 121):
            for h in (1, 2, 3, 4, 5, 7, 11, 50, 119, 120, 10 ** 20, MOST):
                told, d = first_with(max, reach_number, n, divisors(n), h)
                self.assertEqual(reach_size(n, h), told + 1)
                self.assertEqual(reach_rule(n, h), Rule(n, n // d, 0, told))

    def test_apart(self):
        for n in range(2, 121):
            for h in (1, 2, 3, 4, 5, 7, 11, 50, 119, 120, 10 ** 20, MOST):
                told, d = first_with(max, apart_number, n, divisors(n), h)
                q = (d - 2) // (2 * h + 1) + 1
                self.assertEqual(apart_size(n, h), told)
                self.assertEqual(apart_rule(n, h), Rule(n, d, 1 + h * (q - 1), told))

    def test_clocks_with_many_divisors(self):
        for n in (720, 2520, 5040, 30030):
            for size in (1, 2, 7, n // 13, n // 3, n // 2 + 1, n):
                told, d = first_with(min, pair_number, n, divisors(n), size, 5)
                self.assertEqual((least_sums(n, size, 5), least_pair(n, size, 5)[1].step), (told, n // d))
                told, d = first_with(min, fold_number, n, divisors(n), size, 6)
                self.assertEqual((least_fold(n, size, 6), fold_rule(n, size, 6).step), (told, n // d))
            for h in (1, 2, 3, 17):
                told, d = first_with(max, reach_number, n, divisors(n), h)
                self.assertEqual((reach_size(n, h), reach_rule(n, h).step), (told + 1, n // d))
                told, d = first_with(max, apart_number, n, divisors(n), h)
                self.assertEqual((apart_size(n, h), apart_rule(n, h).step), (told, d))


class EdgesTest(unittest.TestCase):
    def test_a_clock_of_one_hour(self):
        whole, none = Rule(1, 1, 0, 1), Rule(1, 1, 0, 0)
        self.assertEqual((least_sums(1, 1, 1), least_pair(1, 1, 1)), (1, (whole, whole)))
        for h in (0, 1, 2, MOST):
            self.assertEqual((least_fold(1, 1, h), fold_rule(1, 1, h)), (1, whole))
        for h in (1, 2, 3, 10, MOST):
            self.assertEqual((reach_size(1, h), reach_rule(1, h)), (1, none))
            self.assertEqual((apart_size(1, h), apart_rule(1, h)), (0, none))

    def test_no_summands_and_one(self):
        for n in (1, 2, 12, 13, GREAT, PRIME):
            for r in (1, n // 2 + 1, n):
                self.assertEqual((least_fold(n, r, 0), fold_rule(n, r, 0)), (1, Rule(n, n, 0, r)))
                self.assertEqual((least_fold(n, r, 1), fold_rule(n, r, 1)), (r, Rule(n, n, 0, r)))
        for n in (2, 12, 13, GREAT, PRIME):
            self.assertEqual((reach_size(n, 1), reach_rule(n, 1)), (n, Rule(n, n, 0, n - 1)))

    def test_the_least_divisor_of_several_that_tell_the_number(self):
        # 4 + 4 - 1 is 7, which 7 as the divisor tells, too.
        self.assertEqual(least_pair(7, 4, 4), (Rule(7, 7, 0, 4), Rule(7, 7, 0, 4)))
        self.assertEqual(least_pair(7, 4, 5), (Rule(7, 1, 0, 4), Rule(7, 1, 0, 5)))
        self.assertEqual(least_pair(12, 1, 4), (Rule(12, 12, 0, 1), Rule(12, 12, 0, 4)))
        self.assertEqual(fold_rule(12, 1, 3), Rule(12, 12, 0, 1))
        self.assertEqual(reach_rule(12, 2), Rule(12, 12, 0, 6))
        self.assertEqual(reach_rule(4, 3), Rule(4, 2, 0, 2))
        self.assertEqual(apart_rule(25, 2), Rule(25, 5, 1, 5))
        self.assertEqual(apart_rule(6, 1), Rule(6, 2, 1, 3))

    def test_primes_near_the_greatest_clock(self):
        for r, s in ((1, 1), (1, PRIME), (PRIME, PRIME), (5, 7), (PRIME - 10, 10), (PRIME - 10, 11), (PRIME - 10, 12)):
            told = min(PRIME, r + s - 1)
            step = PRIME if r + s - 1 <= PRIME else 1
            self.assertEqual(least_sums(PRIME, r, s), told)
            self.assertEqual(least_pair(PRIME, r, s), (Rule(PRIME, step, 0, r), Rule(PRIME, step, 0, s)))
        for r, h in ((2, 5), (2, PRIME - 1), (2, PRIME), (3, PRIME // 2), (1, MOST), (2, MOST), (PRIME, 2)):
            told = min(PRIME, h * (r - 1) + 1)
            step = PRIME if h * (r - 1) + 1 <= PRIME else 1
            self.assertEqual((least_fold(PRIME, r, h), fold_rule(PRIME, r, h)), (told, Rule(PRIME, step, 0, r)))
        for h in (1, 2, 3, 7, PRIME - 2, PRIME - 1, PRIME, MOST):
            short = up(PRIME - 1, h)
            self.assertEqual((reach_size(PRIME, h), reach_rule(PRIME, h)), (short + 1, Rule(PRIME, PRIME, 0, short)))
            run = (PRIME - 2) // (2 * h + 1) + 1
            self.assertEqual(apart_size(PRIME, h), run)
            self.assertEqual(apart_rule(PRIME, h), Rule(PRIME, PRIME, 1 + h * (run - 1), run))

    def test_twice_a_prime(self):
        n, p = TWICE_PRIME, 499999993
        told, d = first_with(min, pair_number, n, (1, 2, p, n), p, p)
        self.assertEqual((told, d), (p, p))
        self.assertEqual((least_sums(n, p, p), least_pair(n, p, p)), (p, (Rule(n, 2, 0, p), Rule(n, 2, 0, p))))
        self.assertEqual((reach_size(n, MOST), reach_rule(n, MOST)), (p + 1, Rule(n, 2, 0, p)))
        self.assertEqual((apart_size(n, MOST), apart_rule(n, MOST)), (p, Rule(n, 2, 1, p)))

    def test_the_greatest_clock(self):
        all_divisors = great_divisors()
        for r, s in ((1, 1), (1, GREAT), (GREAT, GREAT), (10 ** 8, 10 ** 8), (10 ** 8 + 1, 3), (12345, 54321), (33, 9)):
            told, d = first_with(min, pair_number, GREAT, all_divisors, r, s)
            self.assertEqual(least_sums(GREAT, r, s), told)
            self.assertEqual(least_pair(GREAT, r, s), (Rule(GREAT, GREAT // d, 0, r), Rule(GREAT, GREAT // d, 0, s)))
        for r, h in ((1, MOST), (2, 7), (17, 10 ** 5), (12345, 10 ** 4), (10 ** 8, 5), (2, MOST), (GREAT, MOST)):
            told, d = first_with(min, fold_number, GREAT, all_divisors, r, h)
            self.assertEqual((least_fold(GREAT, r, h), fold_rule(GREAT, r, h)), (told, Rule(GREAT, GREAT // d, 0, r)))
        for h in (1, 2, 3, 4, 9, 999, 10 ** 9, MOST):
            told, d = first_with(max, reach_number, GREAT, all_divisors, h)
            self.assertEqual(reach_size(GREAT, h), told + 1)
            self.assertEqual(reach_rule(GREAT, h), Rule(GREAT, GREAT // d, 0, told))
            told, d = first_with(max, apart_number, GREAT, all_divisors, h)
            q = (d - 2) // (2 * h + 1) + 1
            self.assertEqual(apart_size(GREAT, h), told)
            self.assertEqual(apart_rule(GREAT, h), Rule(GREAT, d, 1 + h * (q - 1), told))

    def test_hours_of_rules_on_great_clocks(self):
        one, other = least_pair(GREAT, 10 ** 8, 10 ** 8 - 1)
        self.assertEqual([str(one), str(other)], ["1000000000 10 0 100000000", "1000000000 10 0 99999999"])
        self.assertEqual([0 in one, 10 in one, 999999990 in one, 999999990 in other, 1 in one],
                         [True, True, True, False, False])
        odd = apart_rule(GREAT, 5)
        self.assertEqual([0 in odd, 1 in odd, 999999998 in odd, 999999999 in odd], [False, True, False, True])


class WrongValuesTest(unittest.TestCase):
    def wrong(self, error, at, function, *args):
        """The call fails by the argument at this place, told as it was passed."""
        for caught in (fails(self, error, function, *args),
                       fails(self, error, function, **dict(zip(NAMES[function.__name__], args)))):
            self.assertIs(caught.number if error is TooMany else caught.given, args[at])
            self.assertIsInstance(caught, NoAnswer if error is TooMany else WrongValue)

    def test_clocks(self):
        for functions, rest in ((PAIRED + FOLDED, (1, 1)), (TIMED, (1,))):
            for function in functions:
                for value in NO_INTEGERS + (0, -1, -12, -MOST):
                    self.wrong(InvalidNumber, 0, function, value, *rest)
                for value in (GREAT + 1, GREAT + 7, MOST, 10 ** 400):
                    self.wrong(TooMany, 0, function, value, *rest)

    def test_sizes(self):
        for function in PAIRED + FOLDED:
            for value in NO_INTEGERS + (0, -1, 13, MOST, 10 ** 400):
                self.wrong(InvalidNumber, 1, function, 12, value, 1)
            self.wrong(InvalidNumber, 1, function, GREAT, GREAT + 1, 1)
            self.wrong(InvalidNumber, 1, function, 1, 2, 1)
        for function in PAIRED:
            for value in NO_INTEGERS + (0, -1, 13, MOST, 10 ** 400):
                self.wrong(InvalidNumber, 2, function, 12, 12, value)
            self.wrong(InvalidNumber, 2, function, GREAT, 1, GREAT + 1)
            self.wrong(InvalidNumber, 2, function, 1, 1, 2)

    def test_numbers_of_summands(self):
        for function in FOLDED:
            for value in NO_INTEGERS + (-1, -2, -MOST):
                self.wrong(InvalidNumber, 2, function, 12, 4, value)
            for value in (MOST + 1, 10 ** 31, 10 ** 400):
                self.wrong(TooMany, 2, function, 12, 4, value)
                self.wrong(TooMany, 2, function, 1, 1, value)
        for function in TIMED:
            for clock in (1, 12):
                for value in NO_INTEGERS + (0, -1, -2, -MOST):
                    self.wrong(InvalidNumber, 1, function, clock, value)
                for value in (MOST + 1, 10 ** 31, 10 ** 400):
                    self.wrong(TooMany, 1, function, clock, value)

    def test_the_first_wrong_argument_is_told(self):
        for function in PAIRED + FOLDED:
            self.wrong(InvalidNumber, 0, function, 0, None, None)
            self.wrong(InvalidNumber, 0, function, "12", 0, -1)
            self.wrong(TooMany, 0, function, GREAT + 1, 0, -1)
            self.wrong(TooMany, 0, function, GREAT + 1, GREAT + 2, MOST + 1)
            self.wrong(InvalidNumber, 1, function, 12, 13, None)
            self.wrong(InvalidNumber, 1, function, 12, 0, MOST + 1)
        for function in TIMED:
            self.wrong(InvalidNumber, 0, function, -5, 0)
            self.wrong(TooMany, 0, function, GREAT + 1, 0)
            self.wrong(TooMany, 0, function, GREAT + 1, MOST + 1)


if __name__ == "__main__":
    unittest.main()
