"""Dials: examples, each change, what is refused, attempts, and wrong values."""

import inspect
import unittest

from hoursums import dials
from hoursums.dials import Dial
from hoursums.errors import Broken, InvalidIndex, InvalidNumber, NoAnswer, NotHours, NothingToUndo, OtherClock
from hoursums.errors import Empty, InvalidText, TooMany, WrongValue
from hoursums.hours import Hours
from hoursums.rules import Rule
from plain import NO_HOURS, NO_INTEGERS, SameAsAll, fails


class OddError(Exception):
    """An error of no class of Python's own or of the package."""


class BareError(BaseException):
    """An error that is no Exception."""


ERRORS = (
    OddError(), BareError(), KeyError(3), ValueError("3"), ZeroDivisionError(), StopIteration(3), GeneratorExit(),
    KeyboardInterrupt(), SystemExit(3), RecursionError(), MemoryError(), AssertionError(), NotImplementedError(),
    Broken(0), TooMany(3), Empty(), NothingToUndo(), InvalidText("3"), WrongValue(), NoAnswer(), OtherClock(3))


def state(dial):
    """All that a dial tells of itself."""
    return dial.clock, dial.now, dial.promises, dial.changes, len(dial)


def on(clock, *hours):
    return Hours(clock, hours)


def turned_dial():
    """A dial with two promises and five changes."""
    dial = Dial(12)
    dial.add(on(12, 0, 3))
    dial.promise(on(12, 0, 3, 6, 9))
    dial.move(3)
    dial.promise(on(12, 3, 6, 7))
    dial.keep(on(12, 3, 4, 6))
    return dial


class ExamplesTest(unittest.TestCase):
    def test_the_example(self):
        dial = Dial(12)
        dial.add(Hours(12, (0, 3)))
        dial.promise(Hours(12, (0, 3, 6, 9)))
        dial.move(3)
        self.assertEqual(
            [str(dial.now), dial.changes, len(dial), dial.promises == (Hours(12, (0, 3, 6, 9)),), dial.tried(len)],
            ['12: 3 6', 3, 2, True, 2])
        self.assertEqual(fails(self, Broken, dial.add, Hours(12, (1,))).index, 0)


class InterfaceTest(unittest.TestCase):
    def test_the_class_and_its_methods_are_defined_in_their_file(self):
        self.assertEqual((Dial.__module__, dials.Dial), ("hoursums.dials", Dial))
        self.assertEqual(list(inspect.signature(Dial).parameters), ["clock"])
        parameters = {"add": ["one"], "keep": ["one"], "move": ["by"], "promise": ["one"], "lift": ["index"],
                      "undo": [], "attempt": [], "tried": ["act"]}
        for name, names in parameters.items():
            self.assertTrue(inspect.isfunction(vars(Dial)[name]), name)
            self.assertEqual(list(inspect.signature(vars(Dial)[name]).parameters), ["self"] + names)
        self.assertTrue(inspect.isfunction(vars(Dial)["__len__"]))
        for name in ("clock", "now", "promises", "changes"):
            self.assertIs(type(vars(Dial)[name]), property)
            self.assertRaises(AttributeError, setattr, Dial(12), name, 3)

    def test_new_dials(self):
        for clock in (1, 2, 12, 239, 240):
            for dial in (Dial(clock), Dial(clock=clock)):
                self.assertEqual(state(dial), (clock, Hours(clock, (0,)), (), 0, 1))
                self.assertEqual([type(value) for value in state(dial)], [int, Hours, tuple, int, int])

    def test_by_name(self):
        dial = Dial(clock=12)
        dial.add(one=on(12, 0, 3))
        dial.keep(one=on(12, 0, 1, 3))
        dial.promise(one=on(12, 0, 3, 6))
        dial.move(by=3)
        dial.promise(one=on(12, 3, 6))
        dial.lift(index=0)
        self.assertEqual(state(dial), (12, on(12, 3, 6), (on(12, 3, 6),), 6, 2))
        self.assertEqual(dial.tried(act=len), 2)

    def test_all_methods_return_none(self):
        dial = Dial(12)
        told = [dial.add(on(12, 0, 3)), dial.keep(on(12, 3)), dial.move(1), dial.promise(on(12, 4)), dial.lift(0),
                dial.undo(), dial.undo()]
        self.assertEqual(told, [None] * 7)

    def test_equal_to_itself_alone(self):
        dial, other = Dial(12), Dial(12)
        self.assertEqual([dial == dial, dial != dial, dial == other, dial != other], [True, False, False, True])
        for value in NO_INTEGERS + (on(12, 0), "12: 0", 12, 1, SameAsAll(), dial.now, dial.attempt()):
            self.assertIs(dial == value, False)
            self.assertIs(dial != value, True)
        dial.move(5)
        self.assertIs(dial == dial, True)
        with dial.attempt() as held:
            self.assertIs(dial == held, True)

    def test_true_as_a_condition(self):
        dial = Dial(12)
        self.assertIs(bool(dial), True)
        dial.keep(on(12))
        self.assertEqual((bool(dial), len(dial), bool(dial.attempt())), (True, 0, True))

    def test_dials_and_attempts_are_new_ones_each_time(self):
        dial, other = Dial(12), Dial(12)
        dial.move(1)
        self.assertEqual((state(other), state(Dial(12))), (state(Dial(12)), (12, on(12, 0), (), 0, 1)))
        self.assertIsNot(dial.attempt(), dial.attempt())

    def test_what_is_passed_and_told_stays(self):
        one, inner, dial = on(12, 0, 3), on(12, 0, 3, 6, 9), Dial(12)
        before = dial.now, dial.promises
        dial.add(one)
        dial.promise(inner)
        between = dial.now, dial.promises
        dial.move(3)
        dial.lift(0)
        self.assertEqual((before, between), ((on(12, 0), ()), (on(12, 0, 3), (inner,))))
        self.assertEqual((one, inner), (on(12, 0, 3), on(12, 0, 3, 6, 9)))
        self.assertEqual((state(dial), state(dial)), ((12, on(12, 3, 6), (), 4, 2),) * 2)


class ChangesTest(unittest.TestCase):
    def test_add_keep_and_move(self):
        dial = Dial(12)
        dial.add(on(12, 1, 5, 10))
        self.assertEqual(dial.now, on(12, 1, 5, 10))
        dial.add(on(12, 0, 7))
        self.assertEqual(dial.now, on(12, 0, 1, 5, 8, 10))
        dial.keep(on(12, 1, 2, 8, 10, 11))
        self.assertEqual(dial.now, on(12, 1, 8, 10))
        dial.move(-1)
        self.assertEqual(dial.now, on(12, 0, 7, 9))
        dial.move(10 ** 30 + 5)
        self.assertEqual(dial.now, Hours(12, tuple(sorted([(h + 10 ** 30 + 5) % 12 for h in (0, 7, 9)]))))
        self.assertEqual(dial.changes, 5)

    def test_a_change_that_changes_nothing_is_one(self):
        dial = Dial(12)
        for many, act in enumerate((
                lambda: dial.add(on(12, 0)), lambda: dial.keep(Hours.whole(12)), lambda: dial.move(0),
                lambda: dial.move(-12), lambda: dial.keep(dial.now), lambda: dial.keep(on(12, 0))), 1):
            act()
            self.assertEqual(state(dial), (12, on(12, 0), (), many, 1))
        for many in range(5, -1, -1):
            dial.undo()
            self.assertEqual(state(dial), (12, on(12, 0), (), many, 1))

    def test_no_hours(self):
        dial = Dial(12)
        dial.promise(on(12, 0))
        dial.add(on(12))
        self.assertEqual(state(dial), (12, on(12), (on(12, 0),), 2, 0))
        dial.promise(on(12))
        dial.move(5)
        dial.add(Hours.whole(12))
        dial.keep(on(12, 4))
        self.assertEqual(state(dial), (12, on(12), (on(12, 0), on(12)), 6, 0))
        for _ in range(5):
            dial.undo()
        self.assertEqual(fails(self, Broken, dial.promise, on(12)).index, 1)

    def test_a_clock_of_one_hour(self):
        dial = Dial(1)
        dial.add(on(1, 0))
        dial.promise(on(1, 0))
        dial.move(7)
        self.assertEqual(fails(self, Broken, dial.promise, on(1)).index, 1)
        dial.keep(on(1))
        dial.promise(on(1))
        self.assertEqual(state(dial), (1, on(1), (on(1, 0), on(1)), 5, 0))

    def test_the_greatest_clock(self):
        dial = Dial(240)
        dial.add(Hours(240, tuple(range(0, 240, 2))))
        dial.promise(Hours(240, tuple(range(0, 240, 2))))
        dial.move(-2)
        self.assertEqual([fails(self, Broken, dial.move, by).index for by in (1, 239, -1)], [0, 0, 0])
        dial.lift(0)
        dial.add(on(240, 0, 239))
        self.assertEqual(state(dial), (240, Hours.whole(240), (), 5, 240))

    def test_promises_in_the_order_in_which_they_were_made(self):
        dial = Dial(12)
        rows = [on(12, 0, 3), on(12, 0), Hours.whole(12), on(12, 0, 3), on(12, 0, 11)]
        for at, one in enumerate(rows):
            dial.promise(one)
            self.assertEqual(dial.promises, tuple(rows[:at + 1]))
        for index in (1, 0, 2, 1, 0):
            dial.lift(index)
            del rows[index]
            self.assertEqual(dial.promises, tuple(rows))
        self.assertEqual((dial.changes, dial.now), (10, on(12, 0)))

    def test_the_same_promise_twice(self):
        dial, one = Dial(12), on(12, 0, 6)
        dial.promise(one)
        dial.promise(one)
        dial.promise(on(12, 0, 6))
        self.assertEqual(dial.promises, (one, one, one))
        dial.lift(1)
        self.assertEqual(fails(self, Broken, dial.move, 1).index, 0)
        dial.lift(0)
        self.assertEqual(fails(self, Broken, dial.move, 1).index, 0)
        dial.lift(0)
        dial.move(1)
        self.assertEqual(state(dial), (12, on(12, 1), (), 7, 1))

    def test_the_first_promise_that_would_fail(self):
        dial = Dial(12)
        for hours in ((0, 1, 2, 3), (0, 1, 3), (0, 2, 3), (0, 1, 2)):
            dial.promise(Hours(12, hours))
        told = state(dial)
        for by, index in ((1, 2), (2, 1), (3, 3), (4, 0), (-1, 0)):
            self.assertEqual(fails(self, Broken, dial.move, by).index, index)
            self.assertEqual(fails(self, Broken, dial.add, on(12, by % 12)).index, index)
            self.assertEqual(fails(self, Broken, dial.add, Hours(12, tuple(sorted({0, by % 12})))).index, index)
        self.assertEqual(state(dial), told)

    def test_a_new_promise_has_the_index_behind_the_others(self):
        dial = Dial(12)
        dial.move(4)
        for many in range(4):
            for hours in ((), (0,), (3, 5), (0, 1, 2, 3, 5, 6, 7, 8, 9, 10, 11)):
                error = fails(self, Broken, dial.promise, Hours(12, hours))
                self.assertEqual((error.index, type(error.index)), (many, int))
                self.assertIsInstance(error, NoAnswer)
            dial.promise(on(12, 4))

    def test_a_promise_holds_only_while_it_is_there(self):
        dial = Dial(12)
        dial.promise(on(12, 0, 1))
        dial.undo()
        dial.move(2)
        dial.promise(on(12, 2, 3))
        dial.lift(0)
        dial.move(3)
        dial.undo()
        dial.undo()
        self.assertEqual(fails(self, Broken, dial.move, 3).index, 0)
        self.assertEqual(state(dial), (12, on(12, 2), (on(12, 2, 3),), 2, 1))

    def test_all_changes_taken_back(self):
        dial = turned_dial()
        self.assertEqual(state(dial), (12, on(12, 3, 6), (on(12, 0, 3, 6, 9), on(12, 3, 6, 7)), 5, 2))
        told = []
        while dial.changes:
            dial.undo()
            told.append((str(dial.now), len(dial.promises), dial.changes))
        self.assertEqual(told, [
            ("12: 3 6", 2, 4), ("12: 3 6", 1, 3), ("12: 0 3", 1, 2), ("12: 0 3", 0, 1), ("12: 0", 0, 0)])
        self.assertEqual(vars(fails(self, NothingToUndo, dial.undo)), {})
        dial.move(1)
        dial.undo()
        self.assertIsInstance(fails(self, NothingToUndo, dial.undo), NoAnswer)
        self.assertEqual(state(dial), state(Dial(12)))

    def test_undo_takes_back_what_is_not_taken_back_yet(self):
        dial = Dial(12)
        for by in (1, 2, 3):
            dial.move(by)
        dial.undo()
        dial.move(5)
        dial.undo()
        dial.undo()
        self.assertEqual(state(dial), (12, on(12, 1), (), 1, 1))


class AttemptsTest(unittest.TestCase):
    def test_rows_that_end_well(self):
        dial = turned_dial()
        with dial.attempt() as held:
            self.assertIs(held, dial)
            held.move(0)
            held.lift(1)
        self.assertEqual((dial.changes, len(dial.promises)), (7, 1))
        dial.undo()
        self.assertEqual((dial.changes, len(dial.promises)), (6, 2))
        dial.undo()
        self.assertEqual(state(dial), state(turned_dial()))

    def test_rows_that_are_left_early_end_well(self):
        def leave(dial):
            with dial.attempt():
                dial.move(1)
                return dial.changes

        dial = Dial(12)
        self.assertEqual(leave(dial), 1)
        for _ in range(3):
            with dial.attempt():
                dial.move(1)
                break
        for _ in range(2):
            with dial.attempt():
                dial.move(1)
                continue
        self.assertEqual((dial.now, dial.changes), (on(12, 4), 4))

    def test_rows_that_end_with_an_error_of_any_class(self):
        for error in ERRORS:
            dial = turned_dial()
            with self.assertRaises(type(error)) as caught:
                with dial.attempt():
                    dial.lift(0)
                    dial.lift(0)
                    dial.add(on(12, 0, 1, 2))
                    dial.promise(Hours.whole(12))
                    raise error
            self.assertIs(caught.exception, error)
            self.assertEqual(state(dial), state(turned_dial()))
            self.same_to_take_back(dial)

    def test_errors_of_the_changes_themselves(self):
        for error, act in ((Broken, lambda dial: dial.move(1)), (NotHours, lambda dial: dial.add(3)),
                           (OtherClock, lambda dial: dial.keep(on(13))), (InvalidIndex, lambda dial: dial.lift(7)),
                           (InvalidNumber, lambda dial: dial.move(None)), (TypeError, lambda dial: dial.move()),
                           (AttributeError, lambda dial: dial.nothing), (ZeroDivisionError, lambda dial: 1 // 0)):
            dial = turned_dial()
            with self.assertRaises(error):
                with dial.attempt():
                    dial.keep(on(12, 3))
                    act(dial)
            self.assertEqual(state(dial), state(turned_dial()))
            self.same_to_take_back(dial)

    def test_undo_in_the_rows_of_what_was_done_before(self):
        dial = turned_dial()
        with dial.attempt():
            dial.undo()
            dial.undo()
            dial.move(6)
        self.assertEqual(state(dial), (12, on(12, 0, 9), (on(12, 0, 3, 6, 9),), 4, 2))
        for many in range(6):
            dial = turned_dial()
            with self.assertRaises(OddError):
                with dial.attempt():
                    for _ in range(many):
                        dial.undo()
                    dial.keep(on(12))
                    dial.promise(on(12))
                    raise OddError()
            self.assertEqual(state(dial), state(turned_dial()))
            self.same_to_take_back(dial)

    def test_undo_of_all_and_more_in_the_rows(self):
        dial = turned_dial()
        with self.assertRaises(NothingToUndo):
            with dial.attempt():
                while True:
                    dial.undo()
        self.assertEqual(state(dial), state(turned_dial()))
        self.same_to_take_back(dial)
        with dial.attempt():
            while dial.changes:
                dial.undo()
        self.assertEqual(state(dial), state(Dial(12)))

    def test_an_inner_error_that_is_caught(self):
        dial = turned_dial()
        with dial.attempt():
            dial.move(0)
            for error in ERRORS:
                try:
                    with dial.attempt() as inner:
                        inner.undo()
                        inner.undo()
                        inner.keep(on(12))
                        raise error
                except BaseException as caught:
                    self.assertIs(caught, error)
                self.assertEqual((dial.now, dial.changes), (on(12, 3, 6), 6))
            dial.lift(0)
        self.assertEqual(state(dial), (12, on(12, 3, 6), (on(12, 3, 6, 7),), 7, 2))
        dial.undo()
        dial.undo()
        self.same_to_take_back(dial)

    def test_an_inner_error_that_is_passed_on(self):
        for depth in range(1, 6):
            dial = turned_dial()
            with self.assertRaises(OddError):
                self.nested(dial, depth, True)
            self.assertEqual(state(dial), state(turned_dial()))
            self.nested(dial, depth, False)
            self.assertEqual((dial.now, dial.changes), (on(12, 3, 6), 5 + depth))
            for _ in range(depth + 1):
                dial.undo()
            self.assertEqual((dial.changes, len(dial.promises)), (4, 2))
            with self.assertRaises(OddError):
                self.nested(dial, depth, True)
            dial.keep(on(12, 3, 4, 6))
            self.same_to_take_back(dial)

    def test_an_outer_error_behind_an_inner_attempt_that_ended_well(self):
        dial = turned_dial()
        with self.assertRaises(OddError):
            with dial.attempt():
                with dial.attempt():
                    dial.undo()
                    dial.move(0)
                    dial.move(0)
                raise OddError()
        self.assertEqual(state(dial), state(turned_dial()))
        self.same_to_take_back(dial)

    def test_the_rows_begin_where_the_with_statement_does(self):
        dial = Dial(12)
        attempt = dial.attempt()
        dial.move(1)
        with self.assertRaises(OddError):
            with attempt:
                dial.move(1)
                raise OddError()
        self.assertEqual(state(dial), (12, on(12, 1), (), 1, 1))
        dial.undo()
        self.assertEqual(state(dial), state(Dial(12)))

    def test_one_attempt_behind_another(self):
        dial = Dial(12)
        for by in range(1, 7):
            try:
                with dial.attempt():
                    dial.move(by)
                    if by % 2:
                        raise OddError()
            except OddError:
                pass
        self.assertEqual(state(dial), (12, on(12, 0), (), 3, 1))
        dial.undo()
        self.assertEqual(state(dial), (12, on(12, 6), (), 2, 1))

    def test_attempts_on_two_dials(self):
        one, other = turned_dial(), turned_dial()
        with self.assertRaises(OddError):
            with one.attempt():
                with other.attempt():
                    other.undo()
                one.undo()
                raise OddError()
        self.assertEqual((state(one), other.changes), (state(turned_dial()), 4))

    def test_tried(self):
        dial = turned_dial()
        for told in (None, 3, (3,), [3], OddError(), dial):
            self.assertIs(dial.tried(lambda passed: told), told)
        self.assertIs(dial.tried(lambda passed: passed), dial)
        self.assertEqual(dial.tried(lambda passed: passed.move(0)), None)
        self.assertEqual((dial.changes, dial.tried(len), dial.tried(act=lambda passed: passed.changes)), (6, 2, 6))
        dial.undo()
        for error in ERRORS:
            def act(passed):
                passed.undo()
                passed.keep(on(12))
                raise error

            with self.assertRaises(type(error)) as caught:
                dial.tried(act)
            self.assertIs(caught.exception, error)
            self.assertEqual(state(dial), state(turned_dial()))
        self.assertEqual(fails(self, Broken, dial.tried, lambda passed: passed.move(1)).index, 0)
        self.same_to_take_back(dial)

    def test_tried_within_tried(self):
        dial = Dial(12)

        def inner(passed):
            passed.undo()
            passed.move(5)
            raise OddError()

        def outer(passed):
            passed.move(1)
            self.assertRaises(OddError, passed.tried, inner)
            return passed.now

        self.assertEqual(dial.tried(outer), on(12, 1))
        self.assertEqual(dial.changes, 1)

    def nested(self, dial, depth, wrong):
        """So many attempts within each other, each with an undo and two changes."""
        with dial.attempt():
            dial.undo()
            dial.keep(on(12, 3, 6))
            dial.move(0)
            if depth > 1:
                self.nested(dial, depth - 1, wrong)
            elif wrong:
                raise OddError()

    def same_to_take_back(self, dial):
        """What undo can take back of it is what it can of the dial of these tests."""
        same = turned_dial()
        while same.changes:
            same.undo()
            dial.undo()
            self.assertEqual(state(dial), state(same))
        self.assertRaises(NothingToUndo, dial.undo)


class WrongValuesTest(unittest.TestCase):
    def refused(self, error, attribute, value, act):
        """What is refused is told as it was passed, and changes nothing."""
        caught = fails(self, error, act, value)
        told = getattr(caught, attribute)
        self.assertTrue(told is value or (type(told), told) == (type(value), value))
        self.assertIsInstance(caught, NoAnswer if error is TooMany else WrongValue)
        self.assertEqual(list(vars(caught)), [attribute])

    def test_clocks(self):
        for value in NO_INTEGERS + (0, -1, -12, -(10 ** 30)):
            self.refused(InvalidNumber, "given", value, Dial)
            self.refused(InvalidNumber, "given", value, lambda value: Dial(clock=value))
        for value in (241, 242, 10 ** 9, 10 ** 400):
            self.refused(TooMany, "number", value, Dial)
            self.refused(TooMany, "number", value, lambda value: Dial(clock=value))

    def test_sets(self):
        dial = turned_dial()
        for act in (dial.add, dial.keep, dial.promise):
            for value in NO_HOURS + (Rule(12, 3, 0, 4), dial, dial.attempt()):
                self.refused(NotHours, "given", value, act)
                self.refused(NotHours, "given", value, lambda value: act(one=value))
            for clock in (1, 11, 13, 24, 240):
                for one in (Hours(clock), Hours(clock, (0,)), Hours.whole(clock)):
                    for error in (fails(self, OtherClock, act, one), fails(self, OtherClock, act, one=one)):
                        self.assertEqual((error.given, type(error.given)), (clock, int))
                        self.assertIsInstance(error, WrongValue)
        self.assertEqual(state(dial), state(turned_dial()))

    def test_moves(self):
        dial = turned_dial()
        for value in NO_INTEGERS + (dial, dial.now):
            self.refused(InvalidNumber, "given", value, dial.move)
            self.refused(InvalidNumber, "given", value, lambda value: dial.move(by=value))
        self.assertEqual(state(dial), state(turned_dial()))

    def test_indexes(self):
        dial, none = turned_dial(), Dial(12)
        for value in NO_INTEGERS + (-1, -2, 2, 3, 10 ** 30, -(10 ** 30), dial):
            self.refused(InvalidIndex, "given", value, dial.lift)
            self.refused(InvalidIndex, "given", value, lambda value: dial.lift(index=value))
        for value in NO_INTEGERS + (0, 1, -1):
            self.refused(InvalidIndex, "given", value, none.lift)
        self.assertEqual((state(dial), state(none)), (state(turned_dial()), state(Dial(12))))

    def test_broken_promises_change_nothing(self):
        dial = turned_dial()
        for act, value, index in ((dial.add, on(12, 1), 0), (dial.add, on(12, 0, 1), 0), (dial.add, on(12, 3), 1),
                                  (dial.move, 1, 0), (dial.move, 3, 1), (dial.move, -3, 1),
                                  (dial.promise, on(12, 3), 2), (dial.promise, on(12), 2)):
            error = fails(self, Broken, act, value)
            self.assertEqual((error.index, type(error.index)), (index, int))
            self.assertIsInstance(error, NoAnswer)
            self.assertEqual(state(dial), state(turned_dial()))


if __name__ == "__main__":
    unittest.main()
