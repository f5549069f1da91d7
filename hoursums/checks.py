"""The checks of arguments that several modules share."""

from hoursums.errors import InvalidHour, InvalidHours, InvalidNumber, TooMany
from hoursums.limits import MOST_TIMES


def is_integer(value):
    """Whether the value is an integer; True and False are none."""
    return isinstance(value, int) and not isinstance(value, bool)


def is_hour(clock, value):
    """Whether the value is an hour of the clock."""
    return is_integer(value) and 0 <= value < clock


def wrong_index(clock, hours):
    """The index of the first of these that is no hour or does not ascend, None if all do."""
    before = -1
    for index, hour in enumerate(hours):
        if not is_hour(clock, hour) or hour <= before:
            return index
        before = hour
    return None


def check_integer(number):
    if not is_integer(number):
        raise InvalidNumber(number)


def check_number(number, least, most):
    if not is_integer(number) or not least <= number <= most:
        raise InvalidNumber(number)


def check_clock(clock, most):
    if not is_integer(clock) or clock < 1:
        raise InvalidNumber(clock)
    if clock > most:
        raise TooMany(clock)


def check_times(times, least=0):
    if not is_integer(times) or times < least:
        raise InvalidNumber(times)
    if times > MOST_TIMES:
        raise TooMany(times)


def check_hour(clock, hour):
    if not is_hour(clock, hour):
        raise InvalidHour(hour)


def check_hours(clock, hours):
    if not isinstance(hours, tuple):
        raise InvalidHours(None)
    index = wrong_index(clock, hours)
    if index is not None:
        raise InvalidHours(index)
