"""Hours as values: how they are made, read, shown, compared, and asked for single hours."""

import inspect
import unittest

from hoursums.errors import InvalidHours, InvalidNumber, InvalidText, TooMany, WrongValue, NoAnswer
from hoursums.hours import Hours
from plain import NO_HOURS, NO_INTEGERS, NO_TEXTS, NO_TUPLES, SameAsAll, fails, subsets


class InterfaceTest(unittest.TestCase):
    def test_the_class_and_its_methods_are_defined_in_their_file(self):
        self.assertEqual(Hours.__module__, "hoursums.hours")
        for name in (
            "__init__", "__add__", "__sub__", "__or__", "__and__", "__invert__", "__neg__", "__mul__", "__contains__",
            "__len__", "__str__", "__repr__", "__eq__", "__bool__", "period", "moved", "fold", "fewest", "row",
        ):
            self.assertTrue(inspect.isfunction(vars(Hours)[name]), name)
        for name in ("read", "whole"):
            self.assertIs(type(vars(Hours)[name]), classmethod)
        for name in ("clock", "hours", "onset", "span"):
            self.assertIs(type(vars(Hours)[name]), property)

    def test_names_of_parameters(self):
        told = {name: list(inspect.signature(getattr(Hours, name)).parameters)
                for name in ("read", "whole", "moved", "fold", "fewest", "row", "period")}
        self.assertEqual(list(inspect.signature(Hours).parameters), ["clock", "hours"])
        self.assertEqual(told, {
            "read": ["text"], "whole": ["clock"], "moved": ["self", "by"], "fold": ["self", "times"],
            "fewest": ["self", "hour"], "row": ["self", "hour"], "period": ["self"],
        })

    def test_properties_cannot_be_assigned(self):
        one = Hours(12, (0, 3))
        for name in ("clock", "hours", "onset", "span"):
            self.assertRaises(AttributeError, setattr, one, name, 5)
        self.assertEqual(repr(one), "Hours 12: 0 3")


class MakingTest(unittest.TestCase):
    def test_clock_and_hours(self):
        for clock in (1, 2, 6):
            for hours in subsets(clock):
                one = Hours(clock, hours)
                self.assertIs(type(one), Hours)
                self.assertEqual((one.clock, one.hours, len(one)), (clock, hours, len(hours)))
                self.assertIs(type(one.hours), tuple)

    def test_by_name_and_without_hours(self):
        self.assertEqual(Hours(clock=12, hours=(0, 3)).hours, (0, 3))
        self.assertEqual(Hours(hours=(0, 3), clock=12).clock, 12)
        self.assertEqual((Hours(12).clock, Hours(12).hours, Hours(clock=12).hours), (12, (), ()))

    def test_the_greatest_clock(self):
        one = Hours(240, tuple(range(240)))
        self.assertEqual((one.clock, len(one), one.hours[-1]), (240, 240, 239))
        self.assertEqual(Hours(240, (239,)).hours, (239,))

    def test_whole(self):
        for clock in (1, 2, 12, 239, 240):
            self.assertEqual(Hours.whole(clock).hours, tuple(range(clock)))
            self.assertEqual(Hours.whole(clock=clock), Hours.whole(clock))
            self.assertEqual(Hours.whole(clock).clock, clock)
            self.assertIs(type(Hours.whole(clock)), Hours)

    def test_wrong_clocks(self):
        for make in (Hours, Hours.whole):
            for clock in NO_INTEGERS + (0, -1, -12, -(10 ** 30)):
                self.assertIs(fails(self, InvalidNumber, make, clock).given, clock)
                self.assertIs(fails(self, InvalidNumber, make, clock=clock).given, clock)
            for clock in (241, 242, 1000000000, 10 ** 400):
                self.assertIs(fails(self, TooMany, make, clock).number, clock)
                self.assertIs(fails(self, TooMany, make, clock=clock).number, clock)

    def test_hours_that_are_no_tuple(self):
        for hours in NO_TUPLES:
            self.assertIsNone(fails(self, InvalidHours, Hours, 12, hours).index)
            self.assertIsNone(fails(self, InvalidHours, Hours, clock=12, hours=hours).index)

    def test_index_of_the_first_wrong_hour(self):
        for hours, index in (
            ((12,), 0), ((-1,), 0), ((0, 12), 1), ((0, 0), 1), ((3, 2), 1), ((0, 3, 3, 2), 2), ((0, 5, 4, 12), 2),
            ((0, 1, 2, 1), 3), ((11, 12), 1), ((5, 10 ** 40), 1), ((0, 1, True), 2), ((0, 13, 5), 1), ((-1, 20), 0),
            (tuple(range(13)), 12), (tuple(range(12)) + (0,), 12), (("0",), 0), ((0, (3,)), 1), ((0, None, 3), 1),
        ):
            self.assertEqual(fails(self, InvalidHours, Hours, 12, hours).index, index, hours)
            self.assertEqual(fails(self, InvalidHours, Hours, hours=hours, clock=12).index, index, hours)

    def test_hours_of_another_kind(self):
        for value in NO_INTEGERS:
            self.assertEqual(fails(self, InvalidHours, Hours, 12, (value,)).index, 0)
            self.assertEqual(fails(self, InvalidHours, Hours, 12, (0, 2, value, 5)).index, 2)

    def test_true_and_false_are_no_hours(self):
        self.assertEqual(fails(self, InvalidHours, Hours, 2, (False, True)).index, 0)
        self.assertEqual(fails(self, InvalidHours, Hours, 2, (0, True)).index, 1)

    def test_hours_at_the_edges_of_the_clock(self):
        self.assertEqual(fails(self, InvalidHours, Hours, 1, (1,)).index, 0)
        self.assertEqual(fails(self, InvalidHours, Hours, 1, (0, 0)).index, 1)
        self.assertEqual(fails(self, InvalidHours, Hours, 240, (0, 240)).index, 1)

    def test_the_clock_is_checked_first(self):
        fails(self, InvalidNumber, Hours, 0, [3])
        fails(self, InvalidNumber, Hours, True, (9, 9))
        fails(self, TooMany, Hours, 241, [3])
        fails(self, TooMany, Hours, hours=(3, 3), clock=241)

    def test_bases_of_the_errors(self):
        self.assertRaises(WrongValue, Hours, 0)
        self.assertRaises(WrongValue, Hours, 12, (12,))
        self.assertRaises(NoAnswer, Hours, 241)
        self.assertRaises(WrongValue, Hours.read, "")

    def test_what_is_passed_stays(self):
        hours = [3, 0]
        fails(self, InvalidHours, Hours, 12, hours)
        self.assertEqual(hours, [3, 0])


class TextTest(unittest.TestCase):
    def test_texts(self):
        for clock, hours, text in (
            (12, (0, 3, 7), "12: 0 3 7"), (12, (), "12:"), (1, (), "1:"), (1, (0,), "1: 0"), (240, (239,), "240: 239"),
            (10, (1, 9), "10: 1 9"), (100, (0, 10, 99), "100: 0 10 99"), (240, (), "240:"),
        ):
            one = Hours(clock, hours)
            self.assertEqual((str(one), repr(one)), (text, "Hours " + text))
            read = Hours.read(text)
            self.assertEqual((type(read), read.clock, read.hours), (Hours, clock, hours))
            self.assertEqual(Hours.read(text=text), one)

    def test_every_small_set_comes_back(self):
        for clock in range(1, 7):
            for hours in subsets(clock):
                one = Hours(clock, hours)
                self.assertEqual(str(one), f"{clock}:" + "".join([f" {hour}" for hour in hours]))
                self.assertEqual(Hours.read(str(one)), one)

    def test_the_greatest_sets_come_back(self):
        for clock in (239, 240):
            self.assertEqual(Hours.read(str(Hours.whole(clock))), Hours.whole(clock))

    def test_texts_of_no_set(self):
        for text in (
            "", " ", ":", "12", "12 ", "0", "12 0 3", "12: ", "12:  ", "12:0", "12:0 3", "12:  0 3", "12: 0  3",
            "12: 0 3 ", " 12: 0 3", "12 : 0 3", "12 :", ": 0", "12:: 0", "12:: ", "12::", "12: 0:", "12: 0, 3",
            "12: 0\n", "12:\n", "\n12:", "12:\n0", "12: 0\n3", "12: 3 0", "12: 3 3", "12: 12", "12: 0 12", "12: 240",
            "12: -1", "12: +1", "12: 03", "12: 00", "12: 0 3 07", "012: 0", "+12: 0", "-12: 0", "0:", "0: 0", "00:",
            "-1:", "241:", "241: 0", "1000000000: 0", "12: 1_0", "1_2: 0", "12: 3.0", "12.0: 3", "12: x", "x: 0",
            "12: 0x3", "12: None", "None:", "Hours 12: 0 3", "(12: 0 3)", "12: (0, 3)", "12; 0 3", "12: 0 3 7 6",
            "1: 1", "240: 240", "12: " + "9" * 4990, "9" * 4990 + ":", "9" * 4990, "12: 0" + " " * 4000, " " * 5000,
            "12: 1e0", "12:-", "12: -", "12: -0", "12: +0", "12: True",
        ):
            error = fails(self, InvalidText, Hours.read, text)
            self.assertIs(error.given, text)
            self.assertIs(fails(self, InvalidText, Hours.read, text=text).given, text)

    def test_values_that_are_no_texts(self):
        for value in NO_TEXTS:
            self.assertIs(fails(self, InvalidText, Hours.read, value).given, value)
            self.assertIs(fails(self, InvalidText, Hours.read, text=value).given, value)


class EqualityTest(unittest.TestCase):
    def test_equal_if_clock_and_hours_are(self):
        made = [(clock, hours) for clock in range(1, 5) for hours in subsets(clock)]
        for first in made:
            for second in made:
                one, other = Hours(*first), Hours(*second)
                self.assertIs(one == other, first == second)
                self.assertIs(one != other, first != second)

    def test_never_equal_to_a_value_of_another_class(self):
        for one in (Hours(12), Hours(12, (0, 3)), Hours(1, (0,))):
            for value in NO_HOURS + (0, 1, 12, one.hours, one.clock, str(one), repr(one), (one.clock, one.hours)):
                self.assertIs(one == value, False)
                self.assertIs(one != value, True)
                if type(value) is not SameAsAll:
                    self.assertIs(value == one, False)
                    self.assertIs(value != one, True)

    def test_in_tuples(self):
        self.assertEqual((Hours(12, (0,)), Hours(12)), (Hours(12, (0,)), Hours.read("12:")))
        self.assertIn(Hours(12, (0,)), (3, Hours(12), Hours(12, (0,))))
        self.assertNotIn(Hours(12, (0,)), (3, Hours(12), Hours(13, (0,))))

    def test_true_as_a_condition(self):
        for one in (Hours(12), Hours(1), Hours(12, (0, 3)), Hours.whole(240), ~Hours.whole(5)):
            self.assertIs(bool(one), True)
            self.assertEqual("yes" if one else "no", "yes")


class MembersTest(unittest.TestCase):
    def test_hours_of_the_set(self):
        for clock in (1, 2, 5):
            for hours in subsets(clock):
                for value in range(-2 * clock - 1, 2 * clock + 2):
                    self.assertIs(value in Hours(clock, hours), value in hours)
                    self.assertIs(value not in Hours(clock, hours), value not in hours)

    def test_integers_that_are_no_hours(self):
        for value in (-1, 12, 240, -240, 10 ** 400, -(10 ** 400)):
            self.assertIs(value in Hours.whole(12), False)

    def test_other_values(self):
        for one in (Hours(12), Hours(12, (0, 1, 3)), Hours.whole(240)):
            for value in NO_INTEGERS + ((0, 1, 3), one):
                self.assertIs(value in one, False)

    def test_len(self):
        self.assertEqual([len(Hours(12)), len(Hours(12, (5,))), len(Hours.whole(240))], [0, 1, 240])


if __name__ == "__main__":
    unittest.main()
