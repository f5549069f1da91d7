"""Rules: the order of the hours, the text, the sets that are listed, and wrong numbers."""

import inspect
import unittest

from hoursums.errors import InvalidNumber, NoAnswer, TooMany, WrongValue
from hoursums.hours import Hours
from hoursums.rules import Rule
from plain import NO_INTEGERS, SameAsAll, divisors, fails

PRIME = 999999937


def in_order(clock, step, first):
    """All hours of the clock in the order of the document."""
    return sorted(range(clock), key=lambda hour: ((hour - first) % step, hour))


def small_rules(most):
    return [(clock, step, first, size) for clock in range(1, most + 1) for step in divisors(clock)
            for first in range(step) for size in range(clock + 1)]


class InterfaceTest(unittest.TestCase):
    def test_the_class_and_its_methods_are_defined_in_their_file(self):
        self.assertEqual(Rule.__module__, "hoursums.rules")
        for name in ("__init__", "__contains__", "__str__", "__repr__", "__eq__", "listed"):
            self.assertTrue(inspect.isfunction(vars(Rule)[name]), name)
        for name in ("clock", "step", "first", "size"):
            self.assertIs(type(vars(Rule)[name]), property)
        self.assertEqual(list(inspect.signature(Rule).parameters), ["clock", "step", "first", "size"])
        self.assertEqual(list(inspect.signature(Rule.listed).parameters), ["self"])

    def test_properties(self):
        for rule in (Rule(12, 3, 2, 4), Rule(12, 3, size=4, first=2), Rule(size=4, first=2, step=3, clock=12)):
            self.assertEqual((rule.clock, rule.step, rule.first, rule.size), (12, 3, 2, 4))
            for name in ("clock", "step", "first", "size"):
                self.assertRaises(AttributeError, setattr, rule, name, 1)
            self.assertEqual(str(rule), "12 3 2 4")

    def test_texts(self):
        self.assertEqual((str(Rule(12, 3, 0, 4)), repr(Rule(12, 3, 0, 4))), ("12 3 0 4", "Rule 12 3 0 4"))
        self.assertEqual((str(Rule(1, 1, 0, 0)), repr(Rule(1, 1, 0, 1))), ("1 1 0 0", "Rule 1 1 0 1"))
        great = Rule(10 ** 9, 10 ** 8, 99999999, 10 ** 9)
        self.assertEqual(str(great), "1000000000 100000000 99999999 1000000000")
        self.assertEqual(repr(great), "Rule 1000000000 100000000 99999999 1000000000")

    def test_equal_if_the_four_numbers_are(self):
        numbers = small_rules(4) + [(12, 3, 0, 4), (10 ** 9, 10, 9, 4)]
        for at, a in enumerate(numbers):
            for b in numbers[:at + 1]:
                self.assertIs(Rule(*a) == Rule(*b), a == b)
                self.assertIs(Rule(*a) != Rule(*b), a != b)

    def test_rules_of_one_set_are_not_equal(self):
        self.assertEqual(Rule(12, 3, 0, 0).listed(), Rule(12, 4, 0, 0).listed())
        self.assertFalse(Rule(12, 3, 0, 0) == Rule(12, 4, 0, 0))
        self.assertFalse(Rule(12, 3, 0, 12) == Rule(12, 3, 1, 12))

    def test_never_equal_to_another_class(self):
        rule = Rule(12, 3, 0, 4)
        for value in NO_INTEGERS + (rule.listed(), str(rule), (12, 3, 0, 4), [12, 3, 0, 4], 12, SameAsAll()):
            self.assertIs(rule == value, False)
            self.assertIs(rule != value, True)

    def test_true_as_a_condition(self):
        for rule in (Rule(12, 3, 0, 4), Rule(12, 3, 0, 0), Rule(1, 1, 0, 0)):
            self.assertIs(bool(rule), True)


class SetTest(unittest.TestCase):
    def test_all_rules_of_small_clocks(self):
        for clock, step, first, size in small_rules(12):
            rule = Rule(clock, step, first, size)
            expected = sorted(in_order(clock, step, first)[:size])
            self.assertEqual([hour for hour in range(clock) if hour in rule], expected)
            self.assertEqual(rule.listed(), Hours(clock, tuple(expected)))

    def test_orders_by_hand(self):
        self.assertEqual([Rule(12, 3, 1, size).listed().hours for size in (1, 3, 4, 5, 9)],
                         [(1,), (1, 4, 7), (1, 4, 7, 10), (1, 2, 4, 7, 10), (0, 1, 2, 4, 5, 7, 8, 10, 11)])
        self.assertEqual(Rule(12, 12, 10, 4).listed().hours, (0, 1, 10, 11))
        self.assertEqual(Rule(12, 1, 0, 4).listed().hours, (0, 1, 2, 3))

    def test_no_hours_and_the_whole_clock(self):
        for clock in (1, 2, 12, 239, 240):
            for step in divisors(clock):
                for first in (0, step - 1):
                    self.assertEqual(Rule(clock, step, first, 0).listed(), Hours(clock))
                    self.assertEqual(Rule(clock, step, first, clock).listed(), Hours.whole(clock))

    def test_values_that_are_no_hours(self):
        whole = Rule(12, 3, 2, 12)
        for value in NO_INTEGERS + (-1, -12, 12, 13, 24, 10 ** 30, -(10 ** 30)):
            self.assertIs(value in whole, False)
            self.assertIs(value not in whole, True)
        self.assertTrue(all([(hour in whole) is True for hour in range(12)]))

    def test_true_and_false_are_no_hours(self):
        rule = Rule(12, 12, 0, 2)
        self.assertEqual([0 in rule, 1 in rule, False in rule, True in rule], [True, True, False, False])

    def test_membership_on_clocks_that_are_not_listed(self):
        for clock, step, first, size in ((5040, 12, 7, 1000), (5040, 5040, 5039, 2), (4999, 4999, 17, 4990),
                                         (4999, 1, 0, 3), (6000, 75, 74, 81)):
            rule = Rule(clock, step, first, size)
            expected = sorted(in_order(clock, step, first)[:size])
            self.assertEqual([hour for hour in range(-2, clock + 2) if hour in rule], expected)

    def test_great_clocks(self):
        tens = Rule(10 ** 9, 10, 3, 10 ** 8 + 2)
        inside = (3, 13, 999999993, 500000003, 4, 14)
        outside = (24, 34, 999999994, 2, 12, 0, 5, 999999999)
        self.assertEqual([[hour in tens for hour in inside], [hour in tens for hour in outside]],
                         [[True] * len(inside), [False] * len(outside)])
        ends = Rule(PRIME, PRIME, PRIME - 1, 3)
        self.assertEqual([hour in ends for hour in (PRIME - 2, PRIME - 1, PRIME, 0, 1, 2)],
                         [False, True, False, True, True, False])
        front = Rule(PRIME, 1, 0, 5)
        self.assertEqual([hour in front for hour in (-1, 0, 4, 5, PRIME - 1)], [False, True, True, False, False])
        whole, none = Rule(10 ** 9, 10 ** 9, 5, 10 ** 9), Rule(10 ** 9, 10 ** 9, 5, 0)
        self.assertEqual([[hour in whole, hour in none] for hour in (0, 4, 5, 999999999)], [[True, False]] * 4)

    def test_listed_up_to_240_hours(self):
        self.assertEqual(Rule(240, 5, 1, 50).listed().hours, tuple(sorted([*range(1, 240, 5), 2, 7])))
        self.assertEqual(Rule(240, 240, 239, 2).listed().hours, (0, 239))
        self.assertEqual(Rule(239, 239, 238, 2).listed().hours, (0, 238))
        self.assertIs(type(Rule(240, 5, 1, 50).listed()), Hours)
        for clock, step in ((241, 241), (241, 1), (242, 11), (10 ** 9, 10), (PRIME, 1)):
            for size in (0, 1, clock):
                error = fails(self, TooMany, Rule(clock, step, 0, size).listed)
                self.assertEqual((error.number, type(error.number)), (clock, int))
                self.assertIsInstance(error, NoAnswer)

    def test_asked_again_the_same_is_told(self):
        rule = Rule(12, 3, 1, 5)
        told = [rule.listed(), 4 in rule, 5 in rule, str(rule), repr(rule), rule.clock, rule.first]
        again = [rule.listed(), 4 in rule, 5 in rule, str(rule), repr(rule), rule.clock, rule.first]
        self.assertEqual(told, again)
        self.assertEqual(rule, Rule(12, 3, 1, 5))


class WrongNumbersTest(unittest.TestCase):
    def wrong(self, given, clock, step, first, size):
        for error in (fails(self, InvalidNumber, Rule, clock, step, first, size),
                      fails(self, InvalidNumber, Rule, size=size, first=first, step=step, clock=clock)):
            self.assertIs(error.given, given)
            self.assertIsInstance(error, WrongValue)

    def test_values_of_other_kinds(self):
        for value in NO_INTEGERS:
            self.wrong(value, value, 3, 0, 4)
            self.wrong(value, 12, value, 0, 4)
            self.wrong(value, 12, 3, value, 4)
            self.wrong(value, 12, 3, 0, value)

    def test_numbers_out_of_their_bounds(self):
        for clock in (0, -1, -12, -(10 ** 30)):
            self.wrong(clock, clock, 1, 0, 0)
        for step in (0, -1, -3, -12, 5, 7, 8, 11, 13, 24, 36, 10 ** 30):
            self.wrong(step, 12, step, 0, 4)
        for first in (-1, -3, 3, 4, 11, 12, 10 ** 30):
            self.wrong(first, 12, 3, first, 4)
        for size in (-1, -4, 13, 24, 10 ** 30):
            self.wrong(size, 12, 3, 0, size)
        self.wrong(1, 12, 1, 1, 4)
        self.wrong(2, 1, 2, 0, 0)
        self.wrong(2, 1, 1, 0, 2)
        self.wrong(3, 10 ** 9, 3, 0, 0)
        self.wrong(10, PRIME, 10, 0, 0)
        self.wrong(10 ** 9 + 1, 10 ** 9, 10, 0, 10 ** 9 + 1)

    def test_clocks_that_are_too_great(self):
        for clock in (10 ** 9 + 1, 10 ** 9 + 7, 2 * 10 ** 9, 10 ** 400):
            for error in (fails(self, TooMany, Rule, clock, 1, 0, 0),
                          fails(self, TooMany, Rule, clock=clock, step=1, first=0, size=0)):
                self.assertIs(error.number, clock)
                self.assertIsInstance(error, NoAnswer)

    def test_the_first_wrong_number_is_told(self):
        self.wrong(0, 0, "3", None, -1)
        self.wrong("3", 12, "3", None, -1)
        self.wrong(5, 12, 5, None, -1)
        self.wrong(None, 12, 3, None, -1)
        self.wrong(3, 12, 3, 3, -1)
        self.wrong(-1, 12, 3, 2, -1)
        self.assertEqual(fails(self, TooMany, Rule, 10 ** 9 + 1, 0, 0, -1).number, 10 ** 9 + 1)
        self.assertEqual(fails(self, TooMany, Rule, 10 ** 9 + 1, 3, "", None).number, 10 ** 9 + 1)


if __name__ == "__main__":
    unittest.main()
