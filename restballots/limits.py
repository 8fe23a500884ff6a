"""The greatest numbers that nights, demands and changes may have."""

MOST_SEATS = 12
MOST_DIVISOR = 100
MOST_PARTIES = 6
MOST_PILES = 6
MOST_COUNT = 10 ** 6
MOST_FAR = 10 ** 7
MOST_CHANGES = 5
MOST_DEMANDS = 5
