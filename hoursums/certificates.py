"""Claims about sets of hours, each with a certificate by which the checker accepts it."""

from hoursums.clocks import best_apart, best_fold, best_pair, best_short
from hoursums.equations import check_both, greatest, tilings
from hoursums.hours import check_one


def certify_least(clock, size, other_size):
    """The least sums of two sets of so many hours."""
    number, divisor = best_pair(clock, size, other_size)
    return ("least", clock, size, other_size, number), divisor


def certify_fold(clock, size, times):
    """The least sums of so many summands of a set of so many hours."""
    number, divisor = best_fold(clock, size, times)
    return ("fold", clock, size, times, number), divisor


def certify_reach(clock, times):
    """The least number of hours with which each set reaches every hour with so many summands."""
    most, divisor = best_short(clock, times)
    return ("reach", clock, times, most + 1), divisor


def certify_apart(clock, times):
    """The most hours of a set of which no sum of so many summands is one of one summand more."""
    most, divisor = best_apart(clock, times)
    return ("apart", clock, times, most), divisor


def certify_sums(one, other):
    """The sums of both."""
    check_both(one, other)
    return ("sums", str(one), str(other), str(one + other)), None


def certify_hour(one, hour):
    """The fewest summands that reach the hour, or that none do."""
    check_one(one)
    row = one.row(hour)
    if row is None:
        # What is reached are the multiples of one step, which the hour is not.
        return ("never", str(one), hour), one.span.period()
    return ("reached", str(one), hour, len(row)), row


def certify_greatest(one, other):
    """The greatest set of which each sum with an hour of the one is in the other."""
    most = greatest(one, other)
    row = tuple([witness(one, other, hour) for hour in (~most).hours])
    return ("within", str(one), str(other), str(most)), row


def certify_unsolved(one, other):
    """That the sums of the one and a set are never just the other, None if they are with some set."""
    most = greatest(one, other)
    missed = (other & ~(one + most)).hours
    if not missed:
        return None
    hour = missed[0]
    row = tuple([witness(one, other, hour - a) for a in one.hours])
    return ("unsolved", str(one), str(other)), (hour, row)


def certify_tilings(one):
    """Each set with the hour 0 by which each hour of the clock is the sum of just one pair."""
    return tuple([(("tiling", str(one), str(tiling)), None) for tiling in tilings(one)])


def witness(one, other, hour):
    """The first hour of the one of which the sum with this hour is not in the other."""
    return (one & (~other).moved(-hour)).hours[0]
