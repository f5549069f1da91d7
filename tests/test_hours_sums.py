"""Sums, differences, multiples, moved sets, and sums of many summands."""

import unittest
from itertools import combinations

from hoursums.errors import InvalidHour, InvalidNumber, NotHours, OtherClock, TooMany, NoAnswer, WrongValue
from hoursums.hours import Hours
from plain import NO_HOURS, NO_INTEGERS, fails, late_layer, layers, least_row, subsets, sums

PAIRS = {
    "+": lambda one, other: one + other, "-": lambda one, other: one - other,
    "|": lambda one, other: one | other, "&": lambda one, other: one & other,
}


class ExamplesTest(unittest.TestCase):
    def test_sums(self):
        one, other = Hours(12, (0, 3, 7)), Hours.read("12: 1 2")
        self.assertEqual(
            [str(one + other), str(one - other), str(~one), str(-one), str(one * 2), str(one.moved(-1)),
             str(one | other), 7 in one],
            ['12: 1 2 4 5 8 9', '12: 1 2 5 6 10 11', '12: 1 2 4 5 6 8 9 10 11', '12: 0 5 9', '12: 0 2 6', '12: 2 6 11',
             '12: 0 1 2 3 7', True])

    def test_many_summands(self):
        even = Hours(12, (2, 6))
        self.assertEqual(
            [even.period(), even.onset, str(even.span), str(even.fold(2)), str(even.fold(10 ** 30)), even.fewest(8),
             even.row(8), even.fewest(1)],
            [12, 2, '12: 0 2 4 6 8 10', '12: 0 4 8', '12: 0 4 8', 2, (2, 6), None])


class OperatorsTest(unittest.TestCase):
    def test_all_pairs_on_small_clocks(self):
        for clock in range(1, 6):
            for a in subsets(clock):
                for b in subsets(clock):
                    one, other = Hours(clock, a), Hours(clock, b)
                    self.assertEqual((one + other).hours, sums(clock, a, b))
                    self.assertEqual((one - other).hours, sums(clock, a, [-hour for hour in b]))
                    self.assertEqual((one | other).hours, tuple(sorted(set(a) | set(b))))
                    self.assertEqual((one & other).hours, tuple(sorted(set(a) & set(b))))
                    self.assertEqual((one.hours, other.hours), (a, b))

    def test_all_sets_on_small_clocks(self):
        for clock in range(1, 8):
            for a in subsets(clock):
                one = Hours(clock, a)
                self.assertEqual((~one).hours, tuple([hour for hour in range(clock) if hour not in a]))
                self.assertEqual((-one).hours, sums(clock, [0], [-hour for hour in a]))
                for factor in range(-clock - 1, 2 * clock + 2):
                    self.assertEqual((one * factor).hours, sums(clock, [0], [hour * factor for hour in a]))
                    self.assertEqual(one.moved(factor).hours, sums(clock, [factor], a))

    def test_results_are_hours_on_the_same_clock(self):
        one, other = Hours(12, (0, 3, 7)), Hours(12)
        for told in (one + other, one - other, one | other, one & other, ~one, -one, one * 3, one.moved(5), one.fold(4),
                     one.span):
            self.assertEqual((type(told), told.clock), (Hours, 12))

    def test_the_greatest_clock(self):
        whole, ends = Hours.whole(240), Hours(240, (0, 239))
        self.assertEqual((whole + whole, whole - ends, ends | whole, whole & ends), (whole, whole, whole, ends))
        self.assertEqual(((ends + ends).hours, (ends - ends).hours), ((0, 238, 239), (0, 1, 239)))
        self.assertEqual((~whole, ~Hours(240), (-ends).hours), (Hours(240), whole, (0, 1)))
        self.assertEqual(((whole * 16).hours, (ends * -1).hours), (tuple(range(0, 240, 16)), (0, 1)))
        self.assertEqual(whole + Hours(240), Hours(240))

    def test_a_clock_of_one_hour(self):
        none, zero = Hours(1), Hours(1, (0,))
        self.assertEqual((zero + zero, zero - zero, -zero, zero * 5), (zero, zero, zero, zero))
        self.assertEqual((~zero, ~none), (none, zero))
        self.assertEqual((zero + none, none + none, none - zero, none * 2, -none), (none, none, none, none, none))

    def test_great_factors_and_moves(self):
        one = Hours(12, (0, 3, 7))
        for many in (10 ** 400 + 1, -(10 ** 400) - 5, 10 ** 30):
            self.assertEqual((one * many).hours, sums(12, [0], [hour * many for hour in one.hours]))
            self.assertEqual(one.moved(many).hours, sums(12, [many], one.hours))
        self.assertEqual(((one * 0).hours, (Hours(12) * 0).hours, one.moved(0)), ((0,), (), one))
        self.assertEqual(one.moved(by=-1), one.moved(-1))

    def test_right_sides_of_another_kind(self):
        for one in (Hours(12, (0, 3)), Hours(12)):
            for value in NO_HOURS:
                for act in PAIRS.values():
                    self.assertIs(fails(self, NotHours, act, one, value).given, value)

    def test_right_sides_on_another_clock(self):
        for clock, other in ((12, 13), (12, 24), (12, 6), (1, 240), (240, 1)):
            for act in PAIRS.values():
                error = fails(self, OtherClock, act, Hours(clock), Hours(other))
                self.assertEqual((error.given, type(error.given)), (other, int))
                fails(self, OtherClock, act, Hours(clock, (0,)), Hours(other, (0,)))

    def test_bases_of_the_errors(self):
        one = Hours(12)
        self.assertRaises(WrongValue, lambda: one + 3)
        self.assertRaises(WrongValue, lambda: one & Hours(13))
        self.assertRaises(WrongValue, lambda: one * "3")
        self.assertRaises(WrongValue, one.moved, None)
        self.assertRaises(WrongValue, one.fold, -1)
        self.assertRaises(NoAnswer, one.fold, 10 ** 30 + 1)
        self.assertRaises(WrongValue, one.fewest, 12)

    def test_wrong_factors_and_moves(self):
        for one in (Hours(12, (0, 3)), Hours(12)):
            for value in NO_INTEGERS:
                self.assertIs(fails(self, InvalidNumber, lambda: one * value).given, value)
                self.assertIs(fails(self, InvalidNumber, one.moved, value).given, value)
                self.assertIs(fails(self, InvalidNumber, one.moved, by=value).given, value)

    def test_nothing_changes(self):
        one, other = Hours(12, (0, 3)), Hours(12, (5,))
        for act in PAIRS.values():
            act(one, other)
        told = [~one, -one, one * 2, one.moved(1), one.fold(7), one.period(), one.fewest(6), one.row(6), one.onset]
        again = [~one, -one, one * 2, one.moved(1), one.fold(7), one.period(), one.fewest(6), one.row(6), one.onset]
        self.assertEqual(told, again)
        self.assertEqual((one, other), (Hours(12, (0, 3)), Hours(12, (5,))))
        same = one
        same += other
        self.assertEqual((same.hours, one.hours), ((5, 8), (0, 3)))


class PeriodTest(unittest.TestCase):
    def test_all_sets_on_small_clocks(self):
        for clock in range(1, 9):
            for a in subsets(clock):
                moves = [p for p in range(1, clock + 1) if clock % p == 0 and sums(clock, [p], a) == a]
                self.assertEqual(Hours(clock, a).period(), moves[0])

    def test_told_periods(self):
        for text, period in (
            ("12:", 1), ("12: 0", 12), ("12: 0 6", 6), ("12: 1 5 9", 4), ("12: 0 1 6 7", 6), ("1:", 1), ("1: 0", 1),
            ("12: 0 2 4 6 8 10", 2), ("10: 0 4", 10), ("240:", 1), ("240: 7 127", 120), ("240: 239", 240),
        ):
            self.assertEqual(Hours.read(text).period(), period)
        self.assertEqual(Hours.whole(240).period(), 1)
        self.assertEqual((Hours.whole(240) & ~Hours(240, (5,))).period(), 240)


class FoldTest(unittest.TestCase):
    def test_all_sets_on_small_clocks(self):
        for clock in range(1, 8):
            for a in subsets(clock):
                one = Hours(clock, a)
                for times, told in enumerate(layers(clock, a, clock + 3)):
                    self.assertEqual(one.fold(times).hours, told)
                for times in (10 ** 30, 10 ** 30 - 1, 10 ** 29 + 7, 12345678901234567890):
                    self.assertEqual(one.fold(times).hours, late_layer(clock, a, times))

    def test_no_summands_and_no_hours(self):
        for clock in (1, 12, 240):
            self.assertEqual((Hours(clock).fold(0).hours, Hours.whole(clock).fold(0).hours), ((0,), (0,)))
            for times in (1, 2, 10 ** 30):
                self.assertEqual(Hours(clock).fold(times), Hours(clock))
                self.assertEqual(Hours.whole(clock).fold(times), Hours.whole(clock))

    def test_the_greatest_clock(self):
        two = Hours(240, (0, 1))
        self.assertEqual([len(two.fold(times)) for times in (0, 1, 100, 238, 239, 240)], [1, 2, 101, 239, 240, 240])
        self.assertEqual(Hours(240, (7,)).fold(10 ** 30).hours, (7 * 10 ** 30 % 240,))
        self.assertEqual(Hours(240, (3, 18)).fold(10 ** 30).hours, late_layer(240, (3, 18), 10 ** 30))
        self.assertEqual(two.fold(times=3).hours, (0, 1, 2, 3))

    def test_wrong_times(self):
        one = Hours(12, (0, 3))
        for times in NO_INTEGERS + (-1, -(10 ** 30)):
            self.assertIs(fails(self, InvalidNumber, one.fold, times).given, times)
            self.assertIs(fails(self, InvalidNumber, one.fold, times=times).given, times)
        for times in (10 ** 30 + 1, 10 ** 31, 10 ** 5000):
            self.assertIs(fails(self, TooMany, one.fold, times).number, times)
            self.assertIs(fails(self, TooMany, one.fold, times=times).number, times)

    def test_so_many_hours_reach_every_hour(self):
        for clock in range(1, 8):
            for times in (1, 2, 3):
                divisors = [d for d in range(1, clock + 1) if clock % d == 0]
                size = 1 + max([d * -((1 - clock // d) // times) for d in divisors])
                whole = Hours.whole(clock)
                told = [Hours(clock, hours).fold(times) == whole for hours in combinations(range(clock), size)]
                self.assertEqual((bool(told), all(told)), (True, True))
                less = [Hours(clock, hours).fold(times) == whole for hours in combinations(range(clock), size - 1)]
                self.assertIn(False, less)


class OnsetAndSpanTest(unittest.TestCase):
    def test_all_sets_on_small_clocks(self):
        for clock in range(1, 9):
            for a in subsets(clock):
                told = layers(clock, a, 3 * clock + 3)
                many = [len(hours) for hours in told]
                onset = [h for h in range(2 * clock) if len(set(many[h:])) == 1][0]
                self.assertEqual(Hours(clock, a).onset, onset)
                span = sorted({hour for hours in told for hour in hours})
                self.assertEqual(Hours(clock, a).span.hours, tuple(span))

    def test_told_onsets(self):
        for text, onset in (
            ("12:", 1), ("12: 5", 0), ("12: 0", 0), ("1:", 1), ("1: 0", 0), ("12: 0 6", 1), ("12: 0 1", 11),
            ("240: 0 1", 239), ("240:", 1), ("240: 100", 0), ("240: 1 121", 1),
        ):
            self.assertEqual(Hours.read(text).onset, onset, text)
        self.assertEqual((Hours.whole(240).onset, Hours.whole(2).onset, Hours.whole(1).onset), (1, 1, 0))

    def test_told_spans(self):
        for text, span in (
            ("12:", "12: 0"), ("12: 0", "12: 0"), ("12: 8", "12: 0 4 8"), ("12: 5", str(Hours.whole(12))),
            ("12: 6 8", "12: 0 2 4 6 8 10"), ("1:", "1: 0"), ("240: 120", "240: 0 120"), ("240:", "240: 0"),
            ("240: 96 120", str(Hours(240, tuple(range(0, 240, 24))))),
        ):
            self.assertEqual(str(Hours.read(text).span), span)


class FewestAndRowTest(unittest.TestCase):
    def test_all_sets_on_small_clocks(self):
        for clock in range(1, 8):
            for a in subsets(clock):
                told = layers(clock, a, clock)
                for hour in range(clock):
                    one = Hours(clock, a)
                    times = [h for h in range(clock) if hour in told[h]]
                    self.assertEqual(one.fewest(hour), times[0] if times else None)
                    self.assertEqual(one.row(hour), least_row(clock, a, hour))

    def test_told_rows(self):
        for text, hour, row in (
            ("12: 2 6", 0, ()), ("12:", 0, ()), ("12:", 1, None), ("12: 0", 1, None), ("12: 4 8", 2, None),
            ("12: 1 5", 3, (1, 1, 1)), ("12: 3 4 9", 6, (3, 3)), ("12: 1 3 5 7", 8, (1, 7)), ("1:", 0, ()),
            ("1: 0", 0, ()), ("12: 2 3 4 10 11", 1, (2, 11)), ("12: 11", 10, (11, 11)), ("12: 3 5", 1, (3, 5, 5)),
            ("240: 0 1", 0, ()),
        ):
            one = Hours.read(text)
            self.assertEqual((one.row(hour), one.row(hour=hour)), (row, row), text)
            fewest = None if row is None else len(row)
            self.assertEqual((one.fewest(hour), one.fewest(hour=hour)), (fewest, fewest))

    def test_the_greatest_clock(self):
        self.assertEqual(Hours(240, (0, 1)).row(239), (1,) * 239)
        self.assertEqual((Hours(240, (239,)).fewest(1), Hours(240, (239,)).row(1)), (239, (239,) * 239))
        self.assertEqual((Hours.whole(240).row(239), Hours.whole(240).row(0)), ((239,), ()))
        self.assertEqual((Hours(240, (2, 4)).row(239), Hours(240, (2, 4)).fewest(239)), (None, None))

    def test_wrong_hours(self):
        for one in (Hours(12, (0, 3)), Hours(12)):
            for hour in NO_INTEGERS + (-1, 12, 13, -12, 10 ** 30):
                for call in (one.fewest, one.row):
                    self.assertIs(fails(self, InvalidHour, call, hour).given, hour)
                    self.assertIs(fails(self, InvalidHour, call, hour=hour).given, hour)
        for call in (Hours(1).row, Hours(1, (0,)).fewest):
            self.assertEqual(fails(self, InvalidHour, call, 1).given, 1)
        self.assertEqual(fails(self, InvalidHour, Hours(240).row, 240).given, 240)


if __name__ == "__main__":
    unittest.main()
