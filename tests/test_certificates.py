"""Certificates: examples, claims that are true and accepted, edges, and wrong values."""

import inspect
import random
import unittest

from hoursums import certificates
from hoursums.certificates import certify_apart, certify_fold, certify_greatest, certify_hour, certify_least
from hoursums.certificates import certify_reach, certify_sums, certify_tilings, certify_unsolved
from hoursums.checker import accepts
from hoursums.clocks import apart_size, least_fold, least_sums, reach_size
from hoursums.equations import greatest, solvable, tilings
from hoursums.errors import InvalidHour, InvalidNumber, NoAnswer, NotHours, OtherClock, TooMany, WrongValue
from hoursums.hours import Hours
from hoursums.rules import Rule
from plain import NO_HOURS, NO_INTEGERS, fails, late_layer, least_row, subsets, sums

MOST = 10 ** 30
GREAT = 10 ** 9
PRIME = 999999937
# Clocks with one divisor and with 1344, primes, a square of a prime, twice a prime, a power of 2.
CLOCKS = (1, 2, 12, 13, 720720, 2 ** 29, 31607 ** 2, 735134400, 999999929, PRIME, 999999986, GREAT - 1, GREAT)
NUMBERED = (certify_least, certify_fold, certify_reach, certify_apart)
PAIRED = (certify_sums, certify_greatest, certify_unsolved)
NAMES = {
    "certify_least": ["clock", "size", "other_size"], "certify_fold": ["clock", "size", "times"],
    "certify_reach": ["clock", "times"], "certify_apart": ["clock", "times"], "certify_sums": ["one", "other"],
    "certify_hour": ["one", "hour"], "certify_greatest": ["one", "other"], "certify_unsolved": ["one", "other"],
    "certify_tilings": ["one"]}


def up(a, b):
    return a // b + (a % b > 0)


def drawn_set(draw, clock):
    """A set without hours, of one hour, whole, of one remainder, in a row, or of any hours."""
    step = draw.choice([d for d in range(1, clock + 1) if clock % d == 0])
    first, many = draw.randrange(clock), draw.randrange(clock + 1)
    kinds = [(), (first,), range(clock), range(first % step, clock, step), draw.sample(range(clock), many),
             {(first + k) % clock for k in range(many)}, draw.sample(range(clock), min(clock, 3)),
             {(hour + k) % clock for hour in range(0, clock, step) for k in range(min(step, 2))}]
    return Hours(clock, tuple(sorted(draw.choice(kinds))))


def drawn_pairs(seed, many, clocks):
    draw = random.Random(seed)
    for _ in range(many):
        clock = draw.choice(clocks)
        yield drawn_set(draw, clock), drawn_set(draw, clock)


class ExamplesTest(unittest.TestCase):
    def test_hours_and_tilings(self):
        self.assertEqual(
            [certify_hour(Hours(12, (2, 6)), 8), certify_hour(Hours(12, (4, 8)), 2), certify_tilings(Hours(4, (0, 1)))],
            [(('reached', '12: 2 6', 8, 2), (2, 6)), (('never', '12: 4 8', 2), 4),
             ((('tiling', '4: 0 1', '4: 0 2'), None),)])

    def test_what_is_unsolved(self):
        self.assertEqual(
            [certify_unsolved(Hours(4, (0, 1)), Hours(4, (0,))), certify_unsolved(Hours(4, (0, 1)), Hours(4, (1, 2)))],
            [(('unsolved', '4: 0 1', '4: 0'), (0, (1, 0))), None])

    def test_least(self):
        self.assertEqual(certify_least(13, 4, 3), (('least', 13, 4, 3, 6), 1))


class InterfaceTest(unittest.TestCase):
    def test_functions_are_defined_in_their_file(self):
        for name, parameters in NAMES.items():
            function = getattr(certificates, name)
            self.assertTrue(inspect.isfunction(function))
            self.assertEqual(function.__module__, "hoursums.certificates")
            self.assertEqual(list(inspect.signature(function).parameters), parameters)

    def test_by_name(self):
        one, other = Hours(12, (0, 1)), Hours(12, (0, 3, 5))
        self.assertEqual(certify_least(other_size=3, size=4, clock=13), certify_least(13, 4, 3))
        self.assertEqual(certify_fold(times=3, size=4, clock=13), certify_fold(13, 4, 3))
        for function in (certify_reach, certify_apart):
            self.assertEqual(function(times=3, clock=13), function(13, 3))
        for function in PAIRED:
            self.assertEqual(function(other=other, one=one), function(one, other))
        self.assertEqual(certify_hour(hour=3, one=one), certify_hour(one, 3))
        self.assertEqual(certify_tilings(one=one), certify_tilings(one))

    def test_kinds_of_values(self):
        one, other = Hours(12, (0, 1)), Hours(12, (0, 3, 5))
        told = [certify_least(12, 4, 3), certify_fold(12, 5, 2), certify_reach(12, 2), certify_apart(12, 1),
                certify_sums(one, other), certify_hour(one, 3), certify_hour(other, 0), certify_greatest(one, other),
                certify_unsolved(one, other), *certify_tilings(one)]
        for pair in told:
            self.assertEqual((type(pair), len(pair), type(pair[0])), (tuple, 2, tuple))
            self.assertLessEqual({type(value) for value in pair[0]}, {str, int})
        self.assertEqual([type(certificate) for _, certificate in told[:10]], [
            int, int, int, int, type(None), tuple, tuple, tuple, tuple, type(None)])
        self.assertEqual([type(value) for value in told[8][1]], [int, tuple])
        self.assertIs(type(certify_tilings(one)), tuple)
        self.assertIs(type(certify_hour(Hours(12, (4,)), 2)[1]), int)

    def test_nothing_changes_and_the_same_is_told_again(self):
        one, other = Hours(12, (0, 1)), Hours(12, (0, 3, 5))
        told = [[function(one, other) for function in PAIRED] + [certify_tilings(one), certify_hour(other, 7)]
                for _ in range(2)]
        self.assertEqual(told[0], told[1])
        self.assertEqual([one, other], [Hours(12, (0, 1)), Hours(12, (0, 3, 5))])


class AcceptedTest(unittest.TestCase):
    def accepted(self, pair, claim):
        self.assertEqual(pair[0], claim)
        self.assertIs(accepts(*pair), True, pair)
        self.assertIs(accepts(claim=pair[0], certificate=pair[1]), True, pair)

    def test_numbers_of_small_clocks(self):
        for n in range(1, 25):
            for r in range(1, n + 1):
                for s in range(1, n + 1):
                    self.accepted(certify_least(n, r, s), ("least", n, r, s, least_sums(n, r, s)))
                for h in (0, 1, 2, 3, 7, MOST):
                    self.accepted(certify_fold(n, r, h), ("fold", n, r, h, least_fold(n, r, h)))
            for h in (1, 2, 3, 4, 7, 23, MOST):
                self.accepted(certify_reach(n, h), ("reach", n, h, reach_size(n, h)))
                self.accepted(certify_apart(n, h), ("apart", n, h, apart_size(n, h)))

    def test_drawn_numbers_of_great_clocks(self):
        draw = random.Random(9)
        for n in CLOCKS:
            for _ in range(4):
                r, s = [draw.choice((1, n, draw.randint(1, n), draw.randint(1, 1 + n // 3))) for _ in range(2)]
                h = draw.choice((1, 2, 3, MOST, MOST - 1, draw.randint(1, MOST), draw.randint(1, n)))
                self.accepted(certify_least(n, r, s), ("least", n, r, s, least_sums(n, r, s)))
                self.accepted(certify_fold(n, r, h), ("fold", n, r, h, least_fold(n, r, h)))
                self.accepted(certify_fold(n, s, 0), ("fold", n, s, 0, 1))
                self.accepted(certify_reach(n, h), ("reach", n, h, reach_size(n, h)))
                self.accepted(certify_apart(n, h), ("apart", n, h, apart_size(n, h)))

    def test_primes_near_the_greatest_clock(self):
        for p in (999999929, PRIME):
            for r, s in ((1, 1), (5, 7), (p, 1), (p - 3, 3), (p - 3, 4), (p - 3, 5), (p, p)):
                self.accepted(certify_least(p, r, s), ("least", p, r, s, min(p, r + s - 1)))
            for r, h in ((1, MOST), (2, 5), (2, MOST), (3, p // 2), (p, 0), (p, 1)):
                self.accepted(certify_fold(p, r, h), ("fold", p, r, h, min(p, h * (r - 1) + 1)))
            for h in (1, 2, 3, p - 1, p, MOST):
                self.accepted(certify_reach(p, h), ("reach", p, h, up(p - 1, h) + 1))
                self.accepted(certify_apart(p, h), ("apart", p, h, (p - 2) // (2 * h + 1) + 1))

    def test_a_clock_of_one_hour(self):
        none, zero = Hours(1), Hours(1, (0,))
        self.assertEqual(certify_least(1, 1, 1), (("least", 1, 1, 1, 1), 1))
        for h in (1, 2, MOST):
            self.assertEqual(certify_fold(1, 1, h), (("fold", 1, 1, h, 1), 1))
            self.assertEqual(certify_reach(1, h), (("reach", 1, h, 1), 1))
            self.assertEqual(certify_apart(1, h), (("apart", 1, h, 0), 1))
        self.assertEqual(certify_fold(1, 1, 0), (("fold", 1, 1, 0, 1), 1))
        for one in (none, zero):
            self.assertEqual(certify_hour(one, 0), (("reached", str(one), 0, 0), ()))
        self.assertEqual(certify_sums(zero, none), (("sums", "1: 0", "1:", "1:"), None))
        self.assertEqual(certify_greatest(zero, none), (("within", "1: 0", "1:", "1:"), (0,)))
        self.assertEqual(certify_greatest(none, none), (("within", "1:", "1:", "1: 0"), ()))
        self.assertEqual(certify_unsolved(none, zero), (("unsolved", "1:", "1: 0"), (0, ())))
        self.assertEqual([certify_unsolved(*pair) for pair in ((zero, none), (zero, zero), (none, none))], [None] * 3)
        self.assertEqual(certify_tilings(zero), ((("tiling", "1: 0", "1: 0"), None),))
        self.assertEqual(certify_tilings(none), ())
        for one, other in ((none, none), (none, zero), (zero, none), (zero, zero)):
            self.all_of_a_pair(one, other)

    def all_of_a_pair(self, one, other):
        """What is certified of two sets, with the claims that the definitions ask for."""
        clock = one.clock
        total = Hours(clock, sums(clock, one.hours, other.hours))
        self.accepted(certify_sums(one, other), ("sums", str(one), str(other), str(total)))
        self.accepted(certify_greatest(one, other), ("within", str(one), str(other), str(greatest(one, other))))
        self.assertIsNone(certify_unsolved(one, total))
        pair = certify_unsolved(one, other)
        self.assertIs(pair is None, solvable(one, other))
        if pair is not None:
            self.accepted(pair, ("unsolved", str(one), str(other)))

    def test_all_pairs_of_small_clocks(self):
        for clock in range(1, 6):
            for one in subsets(clock):
                for other in subsets(clock):
                    a, b = Hours(clock, one), Hours(clock, other)
                    self.all_of_a_pair(a, b)
                    solved = other in [sums(clock, one, x) for x in subsets(clock)]
                    self.assertIs(certify_unsolved(a, b) is None, solved)

    def test_drawn_pairs(self):
        for one, other in drawn_pairs(5, 300, (6, 8, 12, 13, 24, 30)):
            self.all_of_a_pair(one, other)
        for one, other in drawn_pairs(6, 20, (97, 120, 210, 239, 240)):
            self.all_of_a_pair(one, other)

    def test_pairs_on_the_greatest_clock(self):
        none, zero, whole = Hours(240), Hours(240, (0,)), Hours.whole(240)
        even, block = Hours(240, tuple(range(0, 240, 2))), Hours(240, tuple(range(50)))
        for one in (none, zero, whole, even, ~zero, block):
            for other in (none, zero, whole, even, ~even, ~zero, block + block):
                self.all_of_a_pair(one, other)

    def test_hours_of_all_small_sets(self):
        for clock in range(1, 7):
            for hours in subsets(clock):
                one = Hours(clock, hours)
                reached = {hour for many in range(clock) for hour in late_layer(clock, hours, many)}
                for hour in range(clock):
                    row = least_row(clock, hours, hour)
                    self.assertEqual(row is not None, hour in reached)
                    if row is None:
                        self.accepted(certify_hour(one, hour), ("never", str(one), hour))
                    else:
                        self.accepted(certify_hour(one, hour), ("reached", str(one), hour, len(row)))

    def test_hours_of_drawn_sets(self):
        for one, other in drawn_pairs(7, 40, (12, 60, 97, 239, 240)):
            for hour in {0, one.clock - 1, one.clock // 2, *other.hours[:9]}:
                many = one.fewest(hour)
                claim = ("never", str(one), hour) if many is None else ("reached", str(one), hour, many)
                self.accepted(certify_hour(one, hour), claim)

    def test_the_longest_row(self):
        self.assertEqual(certify_hour(Hours(240, (1,)), 239), (("reached", "240: 1", 239, 239), (1,) * 239))
        self.assertEqual(certify_hour(Hours(240, (239,)), 1), (("reached", "240: 239", 1, 239), (239,) * 239))

    def test_hours_of_a_set_without_hours(self):
        for clock in (1, 2, 12, 240):
            self.accepted(certify_hour(Hours(clock), 0), ("reached", f"{clock}:", 0, 0))
            for hour in range(1, clock):
                self.accepted(certify_hour(Hours(clock), hour), ("never", f"{clock}:", hour))

    def test_tilings_in_their_order(self):
        for clock in range(1, 11):
            for hours in subsets(clock):
                self.tiled(Hours(clock, hours))
        for clock, hours in ((12, (0, 1)), (12, (0, 6)), (16, (0, 1, 8, 9)), (24, (0, 8, 16)), (24, (5,)), (24, ()),
                             (24, (0, 1, 2, 12, 13, 14)), (24, tuple(range(24)))):
            self.tiled(Hours(clock, hours))
        self.assertEqual([claim[2] for claim, _ in certify_tilings(Hours(8, (0, 4)))], [
            "8: 0 1 2 3", "8: 0 1 2 7", "8: 0 1 3 6", "8: 0 1 6 7", "8: 0 2 3 5", "8: 0 2 5 7", "8: 0 3 5 6",
            "8: 0 5 6 7"])

    def tiled(self, one):
        pairs = certify_tilings(one)
        self.assertEqual(pairs, tuple([(("tiling", str(one), str(x)), None) for x in tilings(one)]))
        for pair in pairs:
            self.assertIs(accepts(*pair), True)


class WrongValuesTest(unittest.TestCase):
    def wrong(self, error, told, function, *args):
        """The call fails, by position and by name, and tells the value that was passed."""
        for caught in (fails(self, error, function, *args),
                       fails(self, error, function, **dict(zip(NAMES[function.__name__], args)))):
            given = caught.number if error is TooMany else caught.given
            self.assertTrue(given is told or (type(given), given) == (type(told), told))
            self.assertIsInstance(caught, NoAnswer if error is TooMany else WrongValue)
            self.assertEqual(len(vars(caught)), 1)

    def test_clocks(self):
        for function in NUMBERED:
            rest = (1,) * (len(NAMES[function.__name__]) - 1)
            for value in NO_INTEGERS + (0, -1, -MOST):
                self.wrong(InvalidNumber, value, function, value, *rest)
                self.wrong(InvalidNumber, value, function, value, *[None for _ in rest])
            for value in (GREAT + 1, MOST, 10 ** 400):
                self.wrong(TooMany, value, function, value, *rest)
                self.wrong(TooMany, value, function, value, *[None for _ in rest])

    def test_sizes(self):
        for value in NO_INTEGERS + (0, -1, 13, MOST):
            self.wrong(InvalidNumber, value, certify_least, 12, value, 4)
            self.wrong(InvalidNumber, value, certify_least, 12, value, None)
            self.wrong(InvalidNumber, value, certify_least, 12, 4, value)
            self.wrong(InvalidNumber, value, certify_fold, 12, value, 4)
            self.wrong(InvalidNumber, value, certify_fold, 12, value, MOST + 1)

    def test_numbers_of_summands(self):
        for value in NO_INTEGERS + (-1, -MOST):
            self.wrong(InvalidNumber, value, certify_fold, 12, 4, value)
        for value in NO_INTEGERS + (0, -1, -MOST):
            self.wrong(InvalidNumber, value, certify_reach, 12, value)
            self.wrong(InvalidNumber, value, certify_apart, 12, value)
        for value in (MOST + 1, 10 ** 400):
            self.wrong(TooMany, value, certify_fold, 12, 4, value)
            self.wrong(TooMany, value, certify_reach, 12, value)
            self.wrong(TooMany, value, certify_apart, 12, value)

    def test_values_that_are_no_sets(self):
        one = Hours(12, (0, 1))
        for value in NO_HOURS + (Rule(12, 3, 0, 4),):
            for function in PAIRED:
                self.wrong(NotHours, value, function, value, one)
                self.wrong(NotHours, value, function, one, value)
                self.wrong(NotHours, value, function, value, None)
            self.wrong(NotHours, value, certify_hour, value, 0)
            self.wrong(NotHours, value, certify_hour, value, -1)
            self.wrong(NotHours, value, certify_tilings, value)

    def test_sets_on_other_clocks(self):
        for a, b in ((12, 13), (13, 12), (1, 240), (240, 1)):
            for function in PAIRED:
                self.wrong(OtherClock, b, function, Hours(a), Hours(b))
                self.wrong(OtherClock, b, function, Hours(a, (0,)), Hours(b, (0,)))

    def test_values_that_are_no_hours(self):
        for clock, hours in ((12, (0, 1)), (12, ()), (1, (0,)), (240, (239,))):
            for value in NO_INTEGERS + (-1, clock, clock + 1, MOST):
                self.wrong(InvalidHour, value, certify_hour, Hours(clock, hours), value)

    def test_tilings_of_great_clocks(self):
        for clock in (25, 26, 48, 240):
            for one in (Hours(clock), Hours(clock, (0,)), Hours.whole(clock)):
                self.wrong(TooMany, clock, certify_tilings, one)


if __name__ == "__main__":
    unittest.main()
