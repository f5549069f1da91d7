"""Sets of hours as numbers: bit k of a mask is 1 if the hour k is in the set.

With masks the sums of two sets take one shift for each hour of one of them.
"""

ZERO_ALONE = 1


def mask_of(hours):
    """The mask of these hours, in any order; an hour may come more than once."""
    mask = 0
    for hour in hours:
        mask = mask | 1 << hour
    return mask


def hours_of(mask):
    """The hours of the mask, ascending."""
    return [hour for hour in range(mask.bit_length()) if mask >> hour & 1]


def whole_mask(clock):
    """The mask of all hours of the clock."""
    return (1 << clock) - 1


def wrapped(clock, mask):
    """The mask with the hours from the clock to twice the clock taken by their remainder."""
    return (mask | mask >> clock) & whole_mask(clock)


def turned(clock, mask, by):
    """The mask of the hours, each moved by so many hours."""
    return wrapped(clock, mask << by % clock)


def scaled(clock, mask, factor):
    """The mask of the hours, each taken so many times."""
    return mask_of([hour * factor % clock for hour in hours_of(mask)])


def sums(clock, one, other):
    """The mask of the sums of an hour of the one and one of the other."""
    total = 0
    for hour in hours_of(other):
        total = total | one << hour
    return wrapped(clock, total)


def fitting(clock, one, other):
    """The mask of the hours of which each sum with an hour of the one is in the other."""
    fits = whole_mask(clock)
    for hour in hours_of(one):
        fits = fits & turned(clock, other, -hour)
    return fits


def folded(clock, mask, times):
    """The mask of the sums of so many summands."""
    total, doubled, left = ZERO_ALONE, mask, times
    # Doubling keeps even the greatest number of summands to about a hundred rounds.
    while left > 0:
        if left & 1:
            total = sums(clock, total, doubled)
        doubled = sums(clock, doubled, doubled)
        left = left >> 1
    return total


def period_of(clock, mask):
    """The least divisor of the clock by which the set can be moved onto itself."""
    divisors = [step for step in range(1, clock + 1) if clock % step == 0]
    return min([step for step in divisors if turned(clock, mask, step) == mask])


def onset_of(clock, mask):
    """The least number of summands from which on the sums stay equally many."""
    times, now, behind = 0, ZERO_ALONE, mask
    # Sums once as many as those of one summand more are only moved by each further summand,
    # so the first two that are equally many settle all the rest.
    while len(hours_of(now)) != len(hours_of(behind)):
        now, behind = behind, sums(clock, behind, mask)
        times += 1
    return times


def fewest_summands(clock, mask):
    """For each hour of the clock the fewest summands that reach it, None where none do."""
    fewest = [None] * clock
    times = 0
    reached = latest = ZERO_ALONE
    while latest:
        for hour in hours_of(latest):
            fewest[hour] = times
        latest = sums(clock, latest, mask) & ~reached
        reached = reached | latest
        times += 1
    return fewest
