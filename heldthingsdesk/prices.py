"""The prices told, and what a book is worth at them."""

from heldthingsdesk.actions import MILLION
from heldthingsdesk.limits import THINGS


class Price:
    """What one of a thing is worth from a day on, in millionths of a coin."""

    def __init__(self, told):
        self.day = told["day"]
        self.thing = told["thing"]
        self.price = told["price"]


def is_priced(prices, day, thing):
    return any([one.day == day and one.thing == thing for one in prices])


def price_of_evening(prices, thing, evening):
    """The price told for the latest day up to the evening, whenever it was told."""
    latest = -1
    found = 0
    for one in prices:
        if one.thing == thing and latest < one.day <= evening:
            latest = one.day
            found = one.price
    return found


def value_of_book(book, prices, evening):
    """In millionths of a coin; what is still due counts like what is there."""
    coins = book.cash
    quantities = list(book.quantities)
    for due in book.dues:
        coins += due.cash
        quantities[due.thing] += due.quantity
    value = coins * MILLION
    for thing in range(1, THINGS + 1):
        value += quantities[thing] * price_of_evening(prices, thing, evening)
    return value
