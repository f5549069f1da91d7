"""Sets of hours on clocks of up to 10 ** 9 hours, told by a rule."""

from hoursums.checks import check_clock, check_number, is_hour, is_integer
from hoursums.errors import InvalidNumber, TooMany
from hoursums.hours import Hours
from hoursums.limits import MOST_CLOCK, MOST_HOURS


class Rule:
    """The rule by which the first hours, in the order by this step from the first hour, are in the set."""

    def __init__(self, clock, step, first, size):
        check_clock(clock, MOST_CLOCK)
        check_step(clock, step)
        check_number(first, 0, step - 1)
        check_number(size, 0, clock)
        self._clock = clock
        self._step = step
        self._first = first
        self._size = size

    @property
    def clock(self):
        """The number of hours of the clock."""
        return self._clock

    @property
    def step(self):
        """The number by whose remainders the hours are put in order."""
        return self._step

    @property
    def first(self):
        """The hour with which the order begins."""
        return self._first

    @property
    def size(self):
        """The number of hours of the set."""
        return self._size

    def listed(self):
        """The set of the rule."""
        if self._clock > MOST_HOURS:
            raise TooMany(self._clock)
        return Hours(self._clock, tuple([hour for hour in range(self._clock) if hour in self]))

    def __contains__(self, x):
        if not is_hour(self._clock, x):
            return False
        # The place in the order, counted: a great clock could not be listed.
        alike = self._clock // self._step
        place = (x - self._first) % self._step * alike + x // self._step
        return place < self._size

    def __str__(self):
        return f"{self._clock} {self._step} {self._first} {self._size}"

    def __repr__(self):
        return f"Rule {str(self)}"

    def __eq__(self, other):
        return isinstance(other, Rule) and (
            self._clock == other._clock and self._step == other._step
            and self._first == other._first and self._size == other._size)


def check_step(clock, step):
    if not is_integer(step) or step < 1 or clock % step != 0:
        raise InvalidNumber(step)
