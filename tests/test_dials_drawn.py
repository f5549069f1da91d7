"""Drawn rows of changes of dials, held against an own book of hours, promises and changes."""

import random
import unittest

from hoursums.dials import Dial
from hoursums.errors import Broken, InvalidIndex, InvalidNumber, NotHours, NothingToUndo, OtherClock
from hoursums.hours import Hours
from plain import fails

ERRORS = (KeyError, ValueError, ZeroDivisionError, KeyboardInterrupt, GeneratorExit, Broken, NothingToUndo, NotHours)
STEPS = ("add", "add", "keep", "keep", "move", "move", "promise", "promise", "lift", "undo", "undo", "wrong", "attempt")


class Book:
    """Hours and promises as plain sets, and those of each time before a change."""

    def __init__(self, clock):
        self.clock = clock
        self.hours = {0}
        self.promises = []
        self.earlier = []

    def entry(self):
        return set(self.hours), list(self.promises)

    def whole(self):
        return self.entry(), list(self.earlier)

    def change(self, hours, promises):
        self.earlier.append(self.entry())
        self.hours, self.promises = set(hours), list(promises)

    def broken(self, hours):
        """The index of the first promise that these hours are not within, None if they are within all."""
        for index, promise in enumerate(self.promises):
            if not hours <= promise:
                return index
        return None


class Player:
    """Draws changes, makes them with a dial and in a book, and compares."""

    def __init__(self, test, seed, clock):
        self.test = test
        self.draw = random.Random(seed)
        self.dial = Dial(clock)
        self.book = Book(clock)
        self.clock = clock
        self.refused = {}

    def some_hours(self):
        """Drawn hours: few, many, near those of the dial, or those of one remainder."""
        kind = self.draw.randrange(5)
        if kind == 0:
            return {self.draw.randrange(self.clock)}
        if kind == 1:
            return {hour for hour in range(self.clock) if self.draw.randrange(2)}
        if kind == 2:
            return self.book.hours | {hour for hour in range(self.clock) if not self.draw.randrange(4)}
        if kind == 3:
            steps = [step for step in range(1, self.clock + 1) if self.clock % step == 0]
            return set(range(0, self.clock, self.draw.choice(steps)))
        return {self.draw.randrange(self.clock) for _ in range(2)}

    def value(self, hours):
        return Hours(self.clock, tuple(sorted(hours)))

    def compare(self):
        hours, promises = self.book.entry()
        self.test.assertEqual(self.dial.clock, self.clock)
        self.test.assertEqual(self.dial.now, self.value(hours))
        self.test.assertEqual(self.dial.promises, tuple([self.value(promise) for promise in promises]))
        self.test.assertEqual((self.dial.changes, len(self.dial)), (len(self.book.earlier), len(hours)))
        self.test.assertTrue(all([hours <= promise for promise in promises]))

    def play(self, many, depth):
        for _ in range(many):
            getattr(self, self.draw.choice(STEPS if depth else STEPS[:-1]) + "_step")(depth)
            self.compare()

    def refuse(self, error, attribute, told, call, *args):
        caught = fails(self.test, error, call, *args)
        self.test.assertEqual(vars(caught), {} if attribute is None else {attribute: told})
        self.refused[error.__name__] = self.refused.get(error.__name__, 0) + 1

    def turn(self, hours, call, argument):
        """A change to these hours, refused if a promise would fail."""
        index = self.book.broken(hours)
        if index is not None:
            self.refuse(Broken, "index", index, call, argument)
            return
        self.test.assertIsNone(call(argument))
        self.book.change(hours, self.book.promises)

    def add_step(self, depth):
        one = self.some_hours()
        self.turn({(a + b) % self.clock for a in self.book.hours for b in one}, self.dial.add, self.value(one))

    def keep_step(self, depth):
        one = self.some_hours()
        self.test.assertIsNone(self.dial.keep(self.value(one)))
        self.book.change(self.book.hours & one, self.book.promises)

    def move_step(self, depth):
        by = self.draw.choice((0, 1, -1, self.clock, self.draw.randrange(-99, 99), 10 ** 30 + self.draw.randrange(99)))
        self.turn({(hour + by) % self.clock for hour in self.book.hours}, self.dial.move, by)

    def promise_step(self, depth):
        one = self.draw.choice([self.some_hours(), *self.book.promises, self.book.hours])
        if not self.book.hours <= one:
            self.refuse(Broken, "index", len(self.book.promises), self.dial.promise, self.value(one))
            return
        self.test.assertIsNone(self.dial.promise(self.value(one)))
        self.book.change(self.book.hours, self.book.promises + [one])

    def lift_step(self, depth):
        many = len(self.book.promises)
        index = self.draw.randrange(-1, many + 1)
        if not 0 <= index < many:
            self.refuse(InvalidIndex, "given", index, self.dial.lift, index)
            return
        self.test.assertIsNone(self.dial.lift(index))
        self.book.change(self.book.hours, self.book.promises[:index] + self.book.promises[index + 1:])

    def undo_step(self, depth):
        if not self.book.earlier:
            self.refuse(NothingToUndo, None, None, self.dial.undo)
            return
        self.test.assertIsNone(self.dial.undo())
        self.book.hours, self.book.promises = self.book.earlier.pop()

    def wrong_step(self, depth):
        call = self.draw.choice((self.dial.add, self.dial.keep, self.dial.promise))
        self.refuse(NotHours, "given", (0,), call, (0,))
        self.refuse(OtherClock, "given", self.clock + 1, call, Hours(self.clock + 1, (0,)))
        self.refuse(InvalidNumber, "given", True, self.dial.move, True)
        self.refuse(InvalidIndex, "given", False, self.dial.lift, False)

    def attempt_step(self, depth):
        """Drawn rows in an attempt, that end well, or with an error that is caught here or further out."""
        before = self.book.whole()
        error = self.draw.choice((None, *ERRORS))
        try:
            if self.draw.randrange(2):
                with self.dial.attempt() as held:
                    self.test.assertIs(held, self.dial)
                    told = self.rows(held, depth, error)
            else:
                told = self.dial.tried(lambda dial: self.rows(dial, depth, error))
            self.test.assertEqual(told, depth)
        except BaseException as caught:
            if isinstance(caught, AssertionError):
                raise
            (self.book.hours, self.book.promises), self.book.earlier = before
            self.compare()
            if depth < 3 and not self.draw.randrange(3):
                raise

    def rows(self, dial, depth, error):
        self.play(self.draw.randrange(8), depth - 1)
        if error is not None:
            raise error(*[3][:error is not NothingToUndo])
        return depth


class DrawnTest(unittest.TestCase):
    def test_drawn_rows_of_changes(self):
        refused = {}
        for seed in range(240):
            player = Player(self, seed, 1 + seed % 12)
            player.play(60, 3)
            self.take_all_back(player)
            for name, many in player.refused.items():
                refused[name] = refused.get(name, 0) + many
        # Each kind of error comes about often enough to tell something.
        self.assertEqual(sorted(refused), [
            "Broken", "InvalidIndex", "InvalidNumber", "NotHours", "NothingToUndo", "OtherClock"])
        self.assertGreater(min(refused.values()), 100)

    def test_drawn_rows_on_great_clocks(self):
        for seed, clock in enumerate((60, 120, 210, 239)):
            player = Player(self, seed, clock)
            player.play(60, 3)
            self.take_all_back(player)

    def take_all_back(self, player):
        while player.book.earlier:
            player.undo_step(0)
            player.compare()
        self.assertEqual((player.dial.now, player.dial.promises), (Hours(player.clock, (0,)), ()))
        player.undo_step(0)


if __name__ == "__main__":
    unittest.main()
