"""Whether a certificate shows a claim.

It takes nothing but limits from the rest of the package, so that who trusts it need not trust what it checks.
"""

from math import isqrt

from hoursums.limits import MOST_CLOCK, MOST_HOURS, MOST_TIMES


def is_between(value, least, most):
    """Whether the value is an integer from the least to the most; True and False are no integers."""
    return isinstance(value, int) and not isinstance(value, bool) and least <= value <= most


def divisors(number):
    """All numbers that divide this one, in any order, one perhaps twice."""
    low = [d for d in range(1, isqrt(number) + 1) if number % d == 0]
    return low + [number // d for d in low]


def parts(number, divisor):
    """The number divided by the divisor, rounded up."""
    return -(-number // divisor)


def is_best(best, numbers, number, divisor):
    """Whether the number is the best of these, told by divisors, and the divisor tells it."""
    return is_between(number, best, best) and is_between(divisor, 1, MOST_CLOCK) and numbers.get(divisor) == best


def shows_least(told, divisor):
    clock, size, other_size, number = told
    if not is_between(clock, 1, MOST_CLOCK):
        return False
    if not is_between(size, 1, clock) or not is_between(other_size, 1, clock):
        return False
    numbers = {d: (parts(size, d) + parts(other_size, d) - 1) * d for d in divisors(clock)}
    return is_best(min(numbers.values()), numbers, number, divisor)


def shows_fold(told, divisor):
    clock, size, times, number = told
    if not is_between(clock, 1, MOST_CLOCK):
        return False
    if not is_between(size, 1, clock) or not is_between(times, 0, MOST_TIMES):
        return False
    numbers = {d: (times * parts(size, d) - times + 1) * d for d in divisors(clock)}
    return is_best(min(numbers.values()), numbers, number, divisor)


def shows_reach(told, divisor):
    clock, times, number = told
    if not is_between(clock, 1, MOST_CLOCK) or not is_between(times, 1, MOST_TIMES):
        return False
    numbers = {d: d * parts(clock // d - 1, times) + 1 for d in divisors(clock)}
    return is_best(max(numbers.values()), numbers, number, divisor)


def shows_apart(told, divisor):
    clock, times, number = told
    if not is_between(clock, 1, MOST_CLOCK) or not is_between(times, 1, MOST_TIMES):
        return False
    numbers = {d: ((d - 2) // (2 * times + 1) + 1) * (clock // d) for d in divisors(clock)}
    return is_best(max(numbers.values()), numbers, number, divisor)


def set_of(text):
    """The clock and the hours of the set with this text, None if there is none."""
    if not isinstance(text, str):
        return None
    head, *words = text.split(" ")
    number = head.removesuffix(":")
    clock = int(number) if number.isdecimal() and len(number) <= len(str(MOST_HOURS)) else 0
    hours = [hour for hour in range(clock) if str(hour) in words]
    # The text of a set is just the one that can be made again of the clock and the hours found in it.
    if not 1 <= clock <= MOST_HOURS or text != " ".join([f"{clock}:", *[str(hour) for hour in hours]]):
        return None
    return clock, hours


def sets_of(texts):
    """The clock of the sets with these texts and the hours of each, none of it if they are not all on one clock."""
    told = [set_of(text) for text in texts]
    if any([one is None for one in told]):
        return []
    clocks = [clock for clock, _ in told]
    if min(clocks) != max(clocks):
        return []
    return [clocks[0], *[hours for _, hours in told]]


def sums(clock, one, other):
    """The hours that are a sum of one of each, ascending."""
    return sorted({(a + b) % clock for a in one for b in other})


def fewest_summands(clock, one):
    """For each hour that some number of hours of the one reaches, the least such number."""
    fewest, latest, many = {0: 0}, [0], 0
    while latest:
        many += 1
        latest = [hour for hour in sums(clock, latest, one) if hour not in fewest]
        for hour in latest:
            fewest[hour] = many
    return fewest


def is_row(value, hours, many):
    """Whether the value is a tuple of so many of these hours."""
    return isinstance(value, tuple) and len(value) == many and all(
        [is_between(hour, 0, MOST_HOURS) and hour in hours for hour in value])


def misses(clock, one, other, hours, row):
    """Whether the row has for each of the hours one of the first set with which the sum is not in the second."""
    return is_row(row, one, len(hours)) and all(
        [(a + hour) % clock not in other for a, hour in zip(row, hours)])


def shows_sums(told, certificate):
    sets = sets_of(told)
    if not sets or certificate is not None:
        return False
    clock, one, other, total = sets
    return sums(clock, one, other) == total


def shows_reached(told, row):
    text, hour, many = told
    sets = sets_of([text])
    if not sets or not is_between(many, 0, MOST_TIMES):
        return False
    clock, one = sets
    if not is_between(hour, 0, clock - 1) or fewest_summands(clock, one).get(hour) != many:
        return False
    return is_row(row, one, many) and sorted(row) == list(row) and sum(row) % clock == hour


def shows_never(told, divisor):
    text, hour = told
    sets = sets_of([text])
    if not sets:
        return False
    clock, one = sets
    if not is_between(hour, 0, clock - 1) or not is_between(divisor, 1, clock):
        return False
    return all([part % divisor == 0 for part in [clock, *one]]) and hour % divisor != 0


def shows_within(told, row):
    sets = sets_of(told)
    if not sets:
        return False
    clock, one, other, inner = sets
    outer = [hour for hour in range(clock) if hour not in inner]
    return all([hour in other for hour in sums(clock, one, inner)]) and misses(clock, one, other, outer, row)


def shows_unsolved(told, certificate):
    sets = sets_of(told)
    if not sets or not isinstance(certificate, tuple) or len(certificate) != 2:
        return False
    clock, one, other = sets
    hour, row = certificate
    # To come to the hour, some (hour - a) would have to be added to an a, and each of these leads out of the other.
    return is_row((hour,), other, 1) and misses(clock, one, other, [hour - a for a in one], row)


def shows_tiling(told, certificate):
    sets = sets_of(told)
    if not sets or certificate is not None:
        return False
    clock, one, tiling = sets
    pairs = sorted([(a + b) % clock for a in one for b in tiling])
    return 0 in tiling and pairs == list(range(clock))


MANY_TOLD = {
    "least": 4, "fold": 4, "reach": 3, "apart": 3, "sums": 3,
    "reached": 3, "never": 2, "within": 3, "unsolved": 2, "tiling": 2}
CHECKS = {
    "least": shows_least, "fold": shows_fold, "reach": shows_reach, "apart": shows_apart, "sums": shows_sums,
    "reached": shows_reached, "never": shows_never, "within": shows_within, "unsolved": shows_unsolved,
    "tiling": shows_tiling}


def accepts(claim, certificate):
    """Whether the certificate shows the claim; any values may be passed."""
    if not isinstance(claim, tuple) or len(claim) == 0 or not isinstance(claim[0], str):
        return False
    word, *told = claim
    if MANY_TOLD.get(word) != len(told):
        return False
    shows = CHECKS[word]
    return shows(told, certificate)
