"""What the tests share: sums straight from their definition, wrong values, and how a call fails."""

from itertools import combinations, combinations_with_replacement
from math import gcd

from hoursums.hours import Hours


class SameAsAll:
    """Equal to every value, and neither measured nor tested nor iterated."""

    def __eq__(self, other):
        return True

    def __len__(self):
        raise RuntimeError("measured")

    def __bool__(self):
        raise RuntimeError("tested")

    def __iter__(self):
        raise RuntimeError("iterated")

    def __index__(self):
        raise RuntimeError("taken as an index")


NO_INTEGERS = (
    None, True, False, "", "3", "12: 0", b"3", [], [3], (), (3,), ((3,),), {}, {3: 3}, set(), {3}, frozenset(),
    range(3), object(), SameAsAll(), int, len, lambda: 3, Hours, Hours(12), Hours(12, (3,)), ValueError(3), ValueError,
)
NO_TUPLES = tuple([value for value in NO_INTEGERS if type(value) is not tuple]) + (3, 0, -1, [0], [0, 3], iter((0, 3)))
NO_HOURS = tuple([value for value in NO_INTEGERS if type(value) is not Hours]) + (3, 0, -1, (0, 3))
NO_TEXTS = tuple([value for value in NO_INTEGERS if type(value) is not str]) + (3, 0, -1, (0, 3), b"12: 0")


def fails(test, error, call, *args, **named):
    """The error that the call raises, of just this class."""
    with test.assertRaises(error) as caught:
        call(*args, **named)
    test.assertIs(type(caught.exception), error)
    return caught.exception


def subsets(clock):
    """All tuples of ascending hours of the clock."""
    return [hours for size in range(clock + 1) for hours in combinations(range(clock), size)]


def sums(clock, one, other):
    return tuple(sorted({(a + b) % clock for a in one for b in other}))


def layers(clock, hours, many):
    """The sums of 0, 1, .. summands, so many of these sets."""
    told = [(0,)]
    while len(told) < many:
        told.append(sums(clock, told[-1], hours))
    return told


def late_layer(clock, hours, times):
    """The sums of ever so many summands, from where the sets come again."""
    seen = {}
    now = (0,)
    told = []
    while now not in seen:
        seen[now] = len(told)
        told.append(now)
        now = sums(clock, now, hours)
    first = seen[now]
    if times < first:
        return told[times]
    return told[first + (times - first) % (len(told) - first)]


def least_row(clock, hours, hour):
    """The first of the shortest rows, all rows of 0 to clock - 1 hours gone through in order."""
    for size in range(clock):
        for row in combinations_with_replacement(hours, size):
            if sum(row) % clock == hour:
                return row
    return None


def turned(clock, mask, by):
    """The bits of the mask, each moved by so many hours from 0 to the clock."""
    return (mask << by | mask >> clock - by) & (1 << clock) - 1


def sum_table(clock):
    """For each set of the clock, as bits, the sums with each other set, as bits."""
    table = []
    for one in range(1 << clock):
        told = [0]
        for other in range(1, 1 << clock):
            low = other & -other
            told.append(told[other ^ low] | turned(clock, one, low.bit_length() - 1))
        table.append(told)
    return table


def bits(hours):
    return sum([1 << hour for hour in hours])


def is_kept(clock, hours, by):
    """Whether the set moved by so many hours is the same set."""
    return sums(clock, hours, (by,)) == tuple(hours)


def period(clock, hours):
    return min([step for step in range(1, clock + 1) if clock % step == 0 and is_kept(clock, hours, step)])


def divisors(clock):
    return [d for d in range(1, clock + 1) if clock % d == 0]


def units(clock):
    """The factors that have no common divisor with the clock."""
    return [factor for factor in range(1, clock + 1) if gcd(factor, clock) == 1]
