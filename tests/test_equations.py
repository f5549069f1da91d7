"""Equations of sets: examples, edges and wrong values."""

import inspect
import unittest

from hoursums import equations
from hoursums.equations import greatest, least_solutions, slack, solvable, tilings
from hoursums.errors import Empty, NoAnswer, NotHours, OtherClock, TooMany, WrongValue
from hoursums.hours import Hours
from hoursums.rules import Rule
from plain import NO_HOURS, divisors, fails, period, sums

BOTH = (greatest, solvable, least_solutions, slack)


class ExamplesTest(unittest.TestCase):
    def test_greatest_and_solvable(self):
        one = Hours(6, (0, 1))
        self.assertEqual(
            [str(greatest(one, Hours(6, (0, 1, 2, 4)))), solvable(one, Hours(6, (0, 1, 2, 4))),
             solvable(one, Hours(6, (0, 1, 2)))],
            ['6: 0 1', False, True])

    def test_solutions_tilings_and_slack(self):
        one = Hours(6, (0, 1))
        self.assertEqual(
            [str(least_solutions(one, Hours(6, (0, 1, 2, 3)))), str(tilings(one)), slack(one, one),
             slack(Hours(6, (0, 1, 3)), Hours(6, (0, 3)))],
            ['(Hours 6: 0 2,)', '(Hours 6: 0 2 4,)', 0, 0])


class InterfaceTest(unittest.TestCase):
    def test_functions_are_defined_in_their_file(self):
        for function in BOTH + (tilings,):
            self.assertTrue(inspect.isfunction(function))
            self.assertEqual(function.__module__, "hoursums.equations")
            self.assertIs(getattr(equations, function.__name__), function)
            self.assertEqual(list(inspect.signature(function).parameters),
                             ["one"] if function is tilings else ["one", "other"])

    def test_by_name(self):
        one, other = Hours(12, (0, 1, 6)), Hours(12, (0, 1, 2, 6, 7, 8))
        for function in BOTH:
            self.assertEqual(function(other=other, one=one), function(one, other))
        self.assertEqual(tilings(one=Hours(12, (0, 1))), tilings(Hours(12, (0, 1))))

    def test_kinds_of_values(self):
        one, other = Hours(12, (0, 1, 6)), Hours(12, (0, 1, 2, 6, 7, 8))
        self.assertEqual([type(function(one, other)) for function in BOTH], [Hours, bool, tuple, int])
        self.assertEqual((type(tilings(one)), type(tilings(Hours(12, (0, 1, 5))))), (tuple, tuple))
        for told in least_solutions(one, one + other) + tilings(Hours(12, (0, 1))):
            self.assertEqual((type(told), told.clock), (Hours, 12))

    def test_nothing_changes_and_the_same_is_told_again(self):
        one, other = Hours(12, (0, 1, 6)), Hours(12, (0, 1, 2, 6, 7, 8))
        told = [function(one, other) for function in BOTH] + [tilings(one)]
        again = [function(one, other) for function in BOTH] + [tilings(one)]
        self.assertEqual(told, again)
        self.assertEqual([one, other], [Hours(12, (0, 1, 6)), Hours(12, (0, 1, 2, 6, 7, 8))])


class EdgesTest(unittest.TestCase):
    def test_sets_without_hours(self):
        for clock in (1, 2, 12, 14):
            none, some, whole = Hours(clock), Hours(clock, (clock - 1,)), Hours.whole(clock)
            # No hour has a sum outside, so each set is within, and all give no sums.
            for other in (none, some, whole):
                self.assertEqual(greatest(none, other), whole)
                self.assertIs(solvable(none, other), other == none)
                self.assertEqual(least_solutions(none, other), (none,) if other == none else ())
            for one in (some, whole):
                self.assertEqual((greatest(one, none), solvable(one, none)), (none, True))
                self.assertEqual(least_solutions(one, none), (none,))
            self.assertEqual(tilings(none), ())

    def test_a_clock_of_one_hour(self):
        zero = Hours(1, (0,))
        self.assertEqual((greatest(zero, zero), solvable(zero, zero)), (zero, True))
        self.assertEqual((least_solutions(zero, zero), tilings(zero), slack(zero, zero)), ((zero,), (zero,), 0))

    def test_an_equation_without_a_solution(self):
        one, other = Hours(12, (0, 1)), Hours(12, (3, 5, 6))
        self.assertEqual((greatest(one, other), solvable(one, other), least_solutions(one, other)),
                         (Hours(12, (5,)), False, ()))
        self.assertEqual((solvable(Hours.whole(12), one), least_solutions(Hours.whole(12), one)), (False, ()))

    def test_several_least_solutions_ascend_by_their_hours(self):
        told = least_solutions(Hours(4, (0, 1)), Hours.whole(4))
        self.assertEqual([str(solution) for solution in told], ["4: 0 2", "4: 1 3"])
        rows = [solution.hours for solution in least_solutions(Hours(12, (0, 1, 2)), Hours.whole(12))]
        self.assertEqual(rows, sorted(set(rows)))
        # The order is that of tuples, not that of the numbers of hours.
        self.assertLess(rows.index((0, 1, 4, 5, 8, 9)), rows.index((0, 3, 6, 9)))
        self.assertLess(rows.index((0, 3, 6, 9)), rows.index((1, 4, 7, 10)))

    def test_least_solutions_up_to_14_hours(self):
        for hours in ((0,), (0, 7), (0, 3, 10), (0, 1, 2, 3), tuple(range(14))):
            one = Hours(14, hours)
            told = least_solutions(one, Hours.whole(14))
            self.assertTrue(all([one + solution == Hours.whole(14) for solution in told]))
        self.assertEqual(len(least_solutions(Hours(14, (0, 7)), Hours.whole(14))), 2 ** 7)
        self.assertEqual(least_solutions(Hours(14, (3,)), Hours(14, (1, 2))), (Hours(14, (12, 13)),))
        for clock in (15, 16, 24, 240):
            for one, other in ((Hours(clock), Hours(clock)), (Hours(clock, (0, 1)), Hours(clock, (2,)))):
                error = fails(self, TooMany, least_solutions, one, other)
                self.assertEqual((error.number, type(error.number)), (clock, int))
                self.assertIsInstance(error, NoAnswer)

    def test_greatest_solvable_and_slack_on_the_greatest_clock(self):
        one, other = Hours(240, tuple(range(0, 240, 3))), Hours(240, tuple(range(0, 240, 3)))
        self.assertEqual((greatest(one, other), solvable(one, other), slack(one, other)), (one, True, 0))
        self.assertEqual(greatest(one, ~other), ~other)
        block = Hours(240, tuple(range(50)))
        self.assertEqual(greatest(block, Hours(240, tuple(range(100)))), Hours(240, tuple(range(51))))
        self.assertEqual((slack(block, block), slack(block, Hours(240, (0, 60, 120)))), (0, 98))
        self.assertEqual((greatest(block, Hours.whole(240)), slack(Hours.whole(240), block)), (Hours.whole(240), 0))

    def test_tilings_up_to_24_hours(self):
        counts = {(0, 12): 2 ** 11, (0, 8, 16): 3 ** 7, (0, 6, 12, 18): 4 ** 5, (5,): 1, tuple(range(24)): 1, (): 0}
        for hours, many in counts.items():
            told = tilings(Hours(24, hours))
            rows = [tiling.hours for tiling in told]
            self.assertEqual((len(rows), rows), (many, sorted(set(rows))))
            for row in rows:
                self.assertEqual((row[0], len(hours) * len(row), sums(24, hours, row)), (0, 24, tuple(range(24))))
        for clock in (25, 26, 48, 240):
            for one in (Hours(clock), Hours(clock, (0,)), Hours(clock, (0, 1)), Hours.whole(clock)):
                error = fails(self, TooMany, tilings, one)
                self.assertEqual((error.number, type(error.number)), (clock, int))
                self.assertIsInstance(error, NoAnswer)

    def test_tilings_of_one_hour_and_of_the_whole_clock(self):
        for clock in range(1, 25):
            for hour in (0, clock // 2, clock - 1):
                self.assertEqual(tilings(Hours(clock, (hour,))), (Hours.whole(clock),))
            self.assertEqual(tilings(Hours.whole(clock)), (Hours(clock, (0,)),))

    def test_sets_without_a_tiling(self):
        for hours in ((0, 1, 3, 4, 5), (0, 1, 2, 3, 4), (0, 5, 7, 11, 13, 17, 23)):
            self.assertEqual(tilings(Hours(24, hours)), ())
        self.assertEqual((tilings(Hours(12, (0, 1, 3))), tilings(Hours(12, (0, 1, 4, 7)))), ((), ()))

    def test_slack_needs_hours(self):
        some, none = Hours(12, (0, 3)), Hours(12)
        for one, other in ((some, none), (none, some), (none, none)):
            self.assertIsInstance(fails(self, Empty, slack, one, other), NoAnswer)
            self.assertEqual(vars(fails(self, Empty, slack, one=one, other=other)), {})

    def test_slack_by_hand(self):
        # Sums 0 1 3 4 6 7 9 10 with the period 3: 4 + 8 - 4.
        self.assertEqual(slack(Hours(12, (0, 3)), Hours(12, (0, 1, 6, 7, 9))), 0)
        # Sums 0 1 2 4 5 6 8, all moves change them: 7 less 3 + 3 - 1.
        self.assertEqual(slack(Hours(13, (0, 1, 4)), Hours(13, (0, 1, 4))), 1)
        self.assertEqual(slack(Hours(240, (0, 1, 3)), Hours(240, (0, 10, 50))), 4)

    def test_periods_of_the_sums(self):
        for clock in (12, 13, 24):
            for step in divisors(clock):
                one, other = Hours(clock, tuple(range(0, clock, step))), Hours(clock, (0, clock - 1))
                self.assertEqual((one + other).period(), period(clock, (one + other).hours))
                self.assertEqual(slack(one, one), 0)


class WrongValuesTest(unittest.TestCase):
    def test_values_of_other_kinds(self):
        one = Hours(12, (0, 1))
        for value in NO_HOURS + (Rule(12, 3, 0, 4),):
            for function in BOTH:
                for error in (fails(self, NotHours, function, value, one), fails(self, NotHours, function, one, value),
                              fails(self, NotHours, function, one=value, other=one),
                              fails(self, NotHours, function, one=one, other=value)):
                    self.assertIs(error.given, value)
                    self.assertIsInstance(error, WrongValue)
            self.assertIs(fails(self, NotHours, tilings, value).given, value)
            self.assertIs(fails(self, NotHours, tilings, one=value).given, value)

    def test_sets_on_other_clocks(self):
        for a, b in ((12, 13), (12, 24), (12, 6), (1, 240), (240, 1), (14, 15), (15, 14)):
            for one, other in ((Hours(a), Hours(b)), (Hours(a, (0,)), Hours(b, (0,)))):
                for function in BOTH:
                    for error in (fails(self, OtherClock, function, one, other),
                                  fails(self, OtherClock, function, other=other, one=one)):
                        self.assertEqual((error.given, type(error.given)), (b, int))
                        self.assertIsInstance(error, WrongValue)

    def test_the_first_wrong_argument_is_told(self):
        for function in BOTH:
            self.assertEqual(fails(self, NotHours, function, "12: 0", None).given, "12: 0")
            self.assertEqual(fails(self, NotHours, function, "12: 0", Hours(240)).given, "12: 0")
            self.assertIsNone(fails(self, NotHours, function, Hours(240), None).given)
        self.assertIsNone(fails(self, NotHours, least_solutions, None, Hours(240)).given)

    def test_a_clock_that_is_too_great_is_told_last(self):
        great = Hours(15, (0, 1))
        self.assertIsNone(fails(self, NotHours, least_solutions, great, None).given)
        self.assertEqual(fails(self, OtherClock, least_solutions, great, Hours(14)).given, 14)
        self.assertEqual(fails(self, OtherClock, least_solutions, Hours(14), great).given, 15)
        self.assertEqual(fails(self, OtherClock, slack, Hours(12), Hours(13)).given, 13)


if __name__ == "__main__":
    unittest.main()
