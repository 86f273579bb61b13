"""How far the numbers told may go, and the numbers that refuse a call."""

THINGS = 12
MOST_TRADES = 100
MOST_ACTIONS = 30
MOST_PRICES = 200
GREATEST_QUANTITY = 1000000000000000

OUT_OF_RANGE = -1
PAY_TOO_EARLY = -3
NOT_THERE = -4
TOLD_ALREADY = -5
NOT_FITTING = -6
QUANTITY_IMPOSSIBLE = -7
FULL = -8
TOO_LATE = -9

RANGES = {
    "thing": (1, 12),
    "other": (1, 12),
    "day": (0, 100000),
    "ex": (0, 100000),
    "pay": (0, 100000),
    "last": (0, 100000),
    "price": (0, 1000000000000),
    "rate": (0, 1000000000000),
    "for_each": (0, 1000000000000),
    "a": (1, 1000),
    "b": (1, 1000),
    "choice": (0, 1000000000000),
    "quantity": (-1000000000, 1000000000),
    "money": (0, 1000000000000),
    "number": (1, 1000000),
}


def is_within(name, number):
    return RANGES[name][0] <= number <= RANGES[name][1]


def are_within(told):
    """Whether every number of a call, by its name, is within the range of that name."""
    return all([is_within(name, number) for name, number in told.items()])
