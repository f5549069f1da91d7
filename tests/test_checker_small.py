"""All claims on small clocks with all certificates, held against all sets and the definitions."""

import unittest
from itertools import product

from hoursums.checker import accepts
from plain import divisors, late_layer, subsets, sums

MOST = 10 ** 30


def text(clock, hours):
    return " ".join([f"{clock}:", *map(str, hours)])


def up(a, b):
    return a // b + (a % b > 0)


def rows(values, most):
    """All tuples of these values with up to so many."""
    return [row for many in range(most + 1) for row in product(values, repeat=many)]


class NumbersTest(unittest.TestCase):
    def held(self, word, clock, given, best, number_of):
        """Just the best number is accepted, with just the divisors that tell it."""
        for number in range(-1, clock + 3):
            for d in range(-clock, clock + 3):
                shown = number == best and d >= 1 and clock % d == 0 and number_of(d) == best
                self.assertIs(accepts((word, clock, *given, number), d), shown)
        self.assertIn(best, [number_of(d) for d in divisors(clock)])

    def refused(self, word, clock, given):
        """No number and no divisor makes the claim one."""
        for number in range(-1, clock + 2):
            for d in range(-1, clock + 2):
                self.assertIs(accepts((word, clock, *given, number), d), False)

    def test_least(self):
        for clock in range(1, 7):
            fewest = {}
            for one in subsets(clock):
                for other in subsets(clock):
                    sizes = len(one), len(other)
                    fewest[sizes] = min(fewest.get(sizes, clock), len(sums(clock, one, other)))
            for r in range(-1, clock + 3):
                for s in range(-1, clock + 3):
                    if not (1 <= r <= clock and 1 <= s <= clock):
                        self.refused("least", clock, (r, s))
                        continue
                    self.held("least", clock, (r, s), fewest[r, s], lambda d: (up(r, d) + up(s, d) - 1) * d)

    def test_fold(self):
        for clock in range(1, 8):
            for h in (*range(9), 50, MOST - 1, MOST):
                for r in range(1, clock + 1):
                    fewest = min([len(late_layer(clock, one, h)) for one in subsets(clock) if len(one) == r])
                    self.held("fold", clock, (r, h), fewest, lambda d: (h * up(r, d) - h + 1) * d)
            for r, h in ((0, 2), (-1, 2), (clock + 1, 2), (1, -1), (clock, -2), (1, MOST + 1), (clock, 10 ** 40)):
                self.refused("fold", clock, (r, h))

    def test_reach(self):
        for clock in range(1, 9):
            for h in (*range(1, 10), 50, MOST - 1, MOST):
                short = [len(one) for one in subsets(clock) if len(late_layer(clock, one, h)) < clock]
                self.held("reach", clock, (h,), max(short) + 1, lambda d: d * up(clock // d - 1, h) + 1)
            for h in (0, -1, -2, MOST + 1, 10 ** 40):
                self.refused("reach", clock, (h,))

    def test_apart(self):
        for clock in range(1, 9):
            for h in (*range(1, 10), 50, MOST - 1, MOST):
                apart = [len(one) for one in subsets(clock)
                         if not set(late_layer(clock, one, h)) & set(late_layer(clock, one, h + 1))]
                self.held("apart", clock, (h,), max(apart),
                          lambda d: ((d - 2) // (2 * h + 1) + 1) * (clock // d) if clock > 1 else 0)
            for h in (0, -1, -2, MOST + 1, 10 ** 40):
                self.refused("apart", clock, (h,))

    def test_clocks_of_no_hours(self):
        for clock in (0, -1, -6):
            for rest in ((1, 1, 1), (1, 1), (0, 0, 0), (0, 0), (-1, -1, -1), (1, 2, 1)):
                for word in ("least", "fold", "reach", "apart"):
                    for d in range(-6, 7):
                        self.assertIs(accepts((word, clock, *rest), d), False)


class SetsTest(unittest.TestCase):
    def test_sums(self):
        for clock in range(1, 6):
            told = [(one, text(clock, one)) for one in subsets(clock)]
            for (one, a), (other, b) in product(told, repeat=2):
                total = sums(clock, one, other)
                for x, c in told:
                    self.assertIs(accepts(("sums", a, b, c), None), x == total)

    def test_tiling(self):
        for clock in range(1, 8):
            told = [(one, text(clock, one)) for one in subsets(clock)]
            for (one, a), (x, b) in product(told, repeat=2):
                pairs = sorted([(h + k) % clock for h in one for k in x])
                self.assertIs(accepts(("tiling", a, b), None), 0 in x and pairs == list(range(clock)))

    def test_reached(self):
        for clock, values in ((1, range(-1, 3)), (2, range(-1, 4)), (3, range(-1, 4)), (4, range(4))):
            for one in subsets(clock):
                fewest = {}
                for many in range(clock - 1, -1, -1):
                    fewest.update(dict.fromkeys(late_layer(clock, one, many), many))
                for row in rows(values, clock):
                    for hour in range(-1, clock + 1):
                        many = fewest.get(hour)
                        shown = (many == len(row) and set(row) <= set(one) and list(row) == sorted(row)
                                 and sum(row) % clock == hour)
                        for h in range(-1, clock + 1):
                            self.assertIs(accepts(("reached", text(clock, one), hour, h), row), shown and h == many)

    def test_never(self):
        for clock in range(1, 7):
            for one in subsets(clock):
                reached = {hour for many in range(clock) for hour in late_layer(clock, one, many)}
                for hour in range(-1, clock + 2):
                    shown = [d for d in range(-clock, 2 * clock + 1)
                             if accepts(("never", text(clock, one), hour), d) is not False]
                    right = [d for d in divisors(clock) if hour % d and not any([a % d for a in one])]
                    self.assertEqual(shown, right if 0 <= hour < clock else [])
                    self.assertEqual(bool(shown), 0 <= hour < clock and hour not in reached)

    def greatest(self, clock, one, other):
        """The one set within that has all others within in it, all sets gone through."""
        inside = [x for x in subsets(clock) if set(sums(clock, one, x)) <= set(other)]
        return max(inside, key=len)

    def is_missing(self, clock, one, other, hours, row):
        return len(row) == len(hours) and all(
            [a in one and (a + hour) % clock not in other for a, hour in zip(row, hours)])

    def held_within(self, clock, one, other, x, certificates):
        most = self.greatest(clock, one, other)
        outer = [hour for hour in range(clock) if hour not in x]
        claim = ("within", text(clock, one), text(clock, other), text(clock, x))
        shown = [row for row in certificates if accepts(claim, row) is not False]
        right = [row for row in certificates if x == most and self.is_missing(clock, one, other, outer, row)]
        self.assertEqual(shown, right)
        self.assertEqual(bool(shown), x == most)

    def test_within(self):
        for clock in range(1, 4):
            for one, other, x in product(subsets(clock), repeat=3):
                self.held_within(clock, one, other, x, rows(range(-1, clock + 1), clock))
        for one, other, x in product(subsets(4), repeat=3):
            self.held_within(4, one, other, x, list(product(range(4), repeat=4 - len(x))))

    def held_unsolved(self, clock, one, other, certificates):
        solved = other in [sums(clock, one, x) for x in subsets(clock)]
        claim = ("unsolved", text(clock, one), text(clock, other))
        shown = [told for told in certificates if accepts(claim, told) is not False]
        right = [(hour, row) for hour, row in certificates
                 if hour in other and self.is_missing(clock, one, other, [hour - a for a in one], row)]
        self.assertEqual(shown, right)
        self.assertEqual(bool(shown), not solved)

    def test_unsolved(self):
        for clock in range(1, 4):
            values = range(-1, clock + 1)
            certificates = list(product(values, rows(values, clock)))
            for one, other in product(subsets(clock), repeat=2):
                self.held_unsolved(clock, one, other, certificates)
        for one, other in product(subsets(4), repeat=2):
            certificates = list(product(range(4), product(range(4), repeat=len(one))))
            self.held_unsolved(4, one, other, certificates)

    def test_sets_on_two_clocks(self):
        for a, b in ((4, 5), (5, 4), (1, 2), (2, 1), (12, 24)):
            for one, other in ((text(a, ()), text(b, ())), (text(a, (0,)), text(b, (0,)))):
                for x in (text(a, ()), text(b, ()), text(a, (0,)), text(b, (0,))):
                    self.assertIs(accepts(("sums", one, other, x), None), False)
                    for many in range(a + 1):
                        self.assertIs(accepts(("within", one, other, x), (0,) * many), False)
                for certificate in product(range(2), rows((0,), 1)):
                    self.assertIs(accepts(("unsolved", one, other), certificate), False)
                self.assertIs(accepts(("tiling", one, other), None), False)
        self.assertIs(accepts(("sums", "4: 0", "4: 0", "5: 0"), None), False)
        self.assertIs(accepts(("within", "4: 0", "4:", "5:"), (0, 0, 0, 0)), False)
        self.assertIs(accepts(("within", "4: 0", "4:", "5:"), (0, 0, 0, 0, 0)), False)


if __name__ == "__main__":
    unittest.main()
