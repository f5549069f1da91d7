"""Sets of hours on a clock, as values."""

from math import gcd

from hoursums.checks import check_clock, check_hour, check_hours, check_integer, check_times
from hoursums.checks import is_integer, wrong_index
from hoursums.errors import InvalidText, NotHours, OtherClock
from hoursums.limits import MOST_HOURS
from hoursums.masks import fewest_summands, folded, hours_of, mask_of, onset_of, period_of
from hoursums.masks import scaled, sums, turned, whole_mask


class Hours:
    """The set of these hours on this clock."""

    def __init__(self, clock, hours=()):
        check_clock(clock, MOST_HOURS)
        check_hours(clock, hours)
        self._clock = clock
        self._hours = hours
        self._mask = mask_of(hours)

    @classmethod
    def read(cls, text):
        """The set with this text."""
        told = parsed(text)
        if told is None:
            raise InvalidText(text)
        clock, hours = told
        return cls(clock, hours)

    @classmethod
    def whole(cls, clock):
        """The set of all hours of the clock."""
        check_clock(clock, MOST_HOURS)
        return cls(clock, tuple(range(clock)))

    @property
    def clock(self):
        """The number of hours of the clock."""
        return self._clock

    @property
    def hours(self):
        """The hours of the set, ascending."""
        return self._hours

    @property
    def onset(self):
        """The least number of summands from which on the sums stay equally many."""
        return onset_of(self._clock, self._mask)

    @property
    def span(self):
        """The set of all hours that are reached with any number of summands, 0 included."""
        # Taking an hour again and again leads round the clock, so what is reached
        # is closed under differences, too: it is the multiples of one step.
        step = self._clock
        for hour in self._hours:
            step = gcd(step, hour)
        return Hours(self._clock, tuple(range(0, self._clock, step)))

    def __add__(self, other):
        check_other(self._clock, other)
        return of_mask(self._clock, sums(self._clock, self._mask, other._mask))

    def __sub__(self, other):
        check_other(self._clock, other)
        negative = scaled(self._clock, other._mask, -1)
        return of_mask(self._clock, sums(self._clock, self._mask, negative))

    def __or__(self, other):
        check_other(self._clock, other)
        return of_mask(self._clock, self._mask | other._mask)

    def __and__(self, other):
        check_other(self._clock, other)
        return of_mask(self._clock, self._mask & other._mask)

    def __invert__(self):
        return of_mask(self._clock, self._mask ^ whole_mask(self._clock))

    def __neg__(self):
        return of_mask(self._clock, scaled(self._clock, self._mask, -1))

    def __mul__(self, other):
        check_integer(other)
        return of_mask(self._clock, scaled(self._clock, self._mask, other))

    def period(self):
        """The least divisor of the clock by which the set can be moved onto itself."""
        return period_of(self._clock, self._mask)

    def moved(self, by):
        """The set with each hour moved by so many hours."""
        check_integer(by)
        return of_mask(self._clock, turned(self._clock, self._mask, by))

    def fold(self, times):
        """The sums of so many summands."""
        check_times(times)
        return of_mask(self._clock, folded(self._clock, self._mask, times))

    def fewest(self, hour):
        """The least number of summands that reach the hour, None if none do."""
        check_hour(self._clock, hour)
        return fewest_summands(self._clock, self._mask)[hour]

    def row(self, hour):
        """The least row of the fewest hours of the set with this sum, None if there is none."""
        check_hour(self._clock, hour)
        fewest = fewest_summands(self._clock, self._mask)
        if fewest[hour] is None:
            return None
        told = []
        rest = hour
        # No hour before the least one that leads on is in any of the shortest rows,
        # so to take that one each time keeps the row ascending.
        for left in range(fewest[hour], 0, -1):
            least = min([a for a in self._hours if fewest[(rest - a) % self._clock] == left - 1])
            told.append(least)
            rest = (rest - least) % self._clock
        return tuple(told)

    def __contains__(self, x):
        # True and False equal hours, but are none.
        return is_integer(x) and x in self._hours

    def __len__(self):
        return len(self._hours)

    def __bool__(self):
        # Without this a set without hours would be false by its length.
        return True

    def __str__(self):
        return " ".join([f"{self._clock}:", *[str(hour) for hour in self._hours]])

    def __repr__(self):
        return f"Hours {str(self)}"

    def __eq__(self, other):
        return isinstance(other, Hours) and self._clock == other._clock and self._hours == other._hours


def of_mask(clock, mask):
    """The set with this mask."""
    return Hours(clock, tuple(hours_of(mask)))


def check_one(one):
    if not isinstance(one, Hours):
        raise NotHours(one)


def check_other(clock, other):
    check_one(other)
    if other.clock != clock:
        raise OtherClock(other.clock)


def parsed(text):
    """The clock and the hours of the set with this text, None if there is no such set."""
    if not isinstance(text, str):
        return None
    # Looking the words up lets no sign, leading zero or other way of writing a number pass.
    numbers = {str(number): number for number in range(MOST_HOURS + 1)}
    head, *words = text.split(" ")
    clock = numbers.get(head[:-1]) if head.endswith(":") else None
    hours = tuple([numbers.get(word) for word in words])
    if not clock or wrong_index(clock, hours) is not None:
        return None
    return clock, hours
