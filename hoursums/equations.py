"""Equations of sets: which sets, added to a told one, give sums in another one, or just that one."""

from hoursums.errors import Empty, TooMany
from hoursums.hours import Hours, check_one, check_other, of_mask
from hoursums.limits import MOST_LEAST, MOST_TILED
from hoursums.masks import fitting, hours_of, mask_of, sums, turned


def greatest(one, other):
    """The greatest set of which each sum with an hour of the one is in the other."""
    check_both(one, other)
    return of_mask(one.clock, greatest_mask(one, other))


def solvable(one, other):
    """Whether the sums of the one and some set are just the other."""
    check_both(one, other)
    # More hours only give more sums: if any set within gives all of the other, the greatest does.
    return sums(one.clock, mask_of(one.hours), greatest_mask(one, other)) == mask_of(other.hours)


def least_solutions(one, other):
    """All sets that solve the equation, but do not without any one of their hours."""
    check_both(one, other)
    if one.clock > MOST_LEAST:
        raise TooMany(one.clock)
    copies = copies_of(one, hours_of(greatest_mask(one, other)))
    rows = least_covers(copies, mask_of(other.hours))
    return tuple([Hours(one.clock, row) for row in rows])


def tilings(one):
    """All sets with the hour 0 by which each hour of the clock is the sum of just one pair."""
    check_one(one)
    if one.clock > MOST_TILED:
        raise TooMany(one.clock)
    if not one.hours or one.clock % len(one) != 0:
        return ()
    copies = copies_of(one, list(range(one.clock)))
    rows = [((0,), copies[0])]
    for _ in range(one.clock // len(one) - 1):
        rows = [
            ((*row, hour), filled | copies[hour])
            for row, filled in rows for hour in fillers(one, copies, filled)]
    ascending = sorted([tuple(sorted(row)) for row, _ in rows])
    return tuple([Hours(one.clock, hours) for hours in ascending])


def slack(one, other):
    """By how many the sums of both are more than the period of the sums alone accounts for."""
    check_both(one, other)
    if not one.hours or not other.hours:
        raise Empty()
    total = one + other
    step = total.period()
    moves = one.clock // step
    return len(total) - moves * (remainders(one, step) + remainders(other, step) - 1)


def check_both(one, other):
    check_one(one)
    check_other(one.clock, other)


def greatest_mask(one, other):
    """The mask of the greatest set within the equation."""
    return fitting(one.clock, mask_of(one.hours), mask_of(other.hours))


def remainders(one, step):
    """How many remainders by the step the hours of the set have."""
    return len({hour % step for hour in one.hours})


def copies_of(one, moves):
    """For each of the moves the mask of the set moved by it."""
    mask = mask_of(one.hours)
    return {move: turned(one.clock, mask, move) for move in moves}


def joined(copies, row):
    """The mask of the hours that are in any of these copies."""
    total = 0
    for move in row:
        total = total | copies[move]
    return total


def each_needed(copies, row):
    """Whether each of these copies has an hour that is in no other one of them."""
    once = twice = 0
    for move in row:
        twice = twice | once & copies[move]
        once = once | copies[move]
    return all([copies[move] & ~twice for move in row])


def least_covers(copies, goal):
    """The ascending rows of moves whose copies join to the goal, but do not without any one of them."""
    rows = [()]
    for move in copies:
        rows = rows + [(*row, move) for row in rows if each_needed(copies, (*row, move))]
        # Rows that the later copies cannot fill any more would only multiply.
        later = joined(copies, [after for after in copies if after > move])
        rows = [row for row in rows if joined(copies, row) | later == goal]
    return sorted([row for row in rows if joined(copies, row) == goal])


def fillers(one, copies, filled):
    """The moves whose copies fill the first hour that is left, and none that is filled."""
    gap = (~filled & (filled + 1)).bit_length() - 1
    moves = [(gap - hour) % one.clock for hour in one.hours]
    return [move for move in moves if copies[move] & filled == 0]
