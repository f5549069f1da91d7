"""The limits of the numbers that the package takes."""

MOST_CLOCK = 1000000000
MOST_HOURS = 240
MOST_TIMES = 10 ** 30
MOST_LEAST = 14
MOST_TILED = 24
