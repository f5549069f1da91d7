"""How few sums there are, how many hours reach every hour, and how many stay apart."""

from math import isqrt

from hoursums.checks import check_clock, check_number, check_times
from hoursums.limits import MOST_CLOCK
from hoursums.rules import Rule


def least_sums(clock, size, other_size):
    """The least number of sums of two sets of so many hours."""
    return best_pair(clock, size, other_size)[0]


def least_pair(clock, size, other_size):
    """The rules of two sets with the least sums."""
    _, divisor = best_pair(clock, size, other_size)
    step = clock // divisor
    return Rule(clock, step, 0, size), Rule(clock, step, 0, other_size)


def least_fold(clock, size, times):
    """The least number of sums of so many summands of a set of so many hours."""
    return best_fold(clock, size, times)[0]


def fold_rule(clock, size, times):
    """The rule of a set with the least sums of so many summands."""
    _, divisor = best_fold(clock, size, times)
    return Rule(clock, clock // divisor, 0, size)


def reach_size(clock, times):
    """The least number of hours with which each set reaches every hour with so many summands."""
    return best_short(clock, times)[0] + 1


def reach_rule(clock, times):
    """The rule of a set with one hour less, which does not reach every hour."""
    most, divisor = best_short(clock, times)
    return Rule(clock, clock // divisor, 0, most)


def apart_size(clock, times):
    """The most hours of a set of which no sum of so many summands is one of one summand more."""
    return best_apart(clock, times)[0]


def apart_rule(clock, times):
    """The rule of a set apart with the most hours."""
    most, divisor = best_apart(clock, times)
    if clock == 1:
        return Rule(1, 1, 0, 0)
    return Rule(clock, divisor, 1 + times * (apart_run(divisor, times) - 1), most)


def best_pair(clock, size, other_size):
    """The least number of sums of two sets of so many hours, with the least divisor that tells it."""
    check_clock(clock, MOST_CLOCK)
    check_number(size, 1, clock)
    check_number(other_size, 1, clock)
    return min([((parts(size, d) + parts(other_size, d) - 1) * d, d) for d in divisors(clock)])


def best_fold(clock, size, times):
    """The least number of sums of so many summands, with the least divisor that tells it."""
    check_clock(clock, MOST_CLOCK)
    check_number(size, 1, clock)
    check_times(times)
    return min([((times * parts(size, d) - times + 1) * d, d) for d in divisors(clock)])


def best_short(clock, times):
    """The most hours that may miss an hour with so many summands, with the least divisor that tells it."""
    check_clock(clock, MOST_CLOCK)
    check_times(times, 1)
    # The divisors ascend and max keeps the first of equal numbers, so the divisor is the least.
    return max([(d * parts(clock // d - 1, times), d) for d in divisors(clock)], key=lambda told: told[0])


def best_apart(clock, times):
    """The most hours of a set apart, with the least divisor that tells it."""
    check_clock(clock, MOST_CLOCK)
    check_times(times, 1)
    return max([(apart_run(d, times) * (clock // d), d) for d in divisors(clock)], key=lambda told: told[0])


def apart_run(divisor, times):
    """How many hours in a row can be apart on a clock of so many hours, by the document's formula."""
    return (divisor - 2) // (2 * times + 1) + 1


def parts(number, divisor):
    """The number divided by the divisor, rounded up."""
    return (number + divisor - 1) // divisor


def divisors(number):
    """The divisors of the number, ascending."""
    low = [d for d in range(1, isqrt(number) + 1) if number % d == 0]
    high = [number // d for d in low if d * d != number]
    return low + high[::-1]
