import unittest

from hoursums import limits


class LimitsTest(unittest.TestCase):
    def test_the_limits(self):
        self.assertEqual(limits.MOST_CLOCK, 1000000000)
        self.assertEqual(limits.MOST_HOURS, 240)
        self.assertEqual(limits.MOST_TIMES, 10 ** 30)
        self.assertEqual(limits.MOST_LEAST, 14)
        self.assertEqual(limits.MOST_TILED, 24)

    def test_they_are_integers(self):
        for name in ("MOST_CLOCK", "MOST_HOURS", "MOST_TIMES", "MOST_LEAST", "MOST_TILED"):
            self.assertIs(type(getattr(limits, name)), int)


if __name__ == "__main__":
    unittest.main()
