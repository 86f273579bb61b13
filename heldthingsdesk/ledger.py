"""The books of the evenings, worked out anew, day by day, from what was told."""

from heldthingsdesk.actions import entitlement
from heldthingsdesk.limits import GREATEST_QUANTITY, THINGS


class Trade:
    def __init__(self, told):
        self.day = told["day"]
        self.thing = told["thing"]
        self.quantity = told["quantity"]
        self.money = told["money"]


class Book:
    """What there is on an evening; a new one is that of before all days."""

    def __init__(self):
        # A thing's number is its index; index 0 takes the 0 of what is of no thing.
        self.quantities = [0] * (THINGS + 1)
        self.cash = 0
        self.dues = []


class Diary:
    """What was told, laid out by the days on which it does something."""

    def __init__(self, trades, actions):
        self.trades_on = {}
        self.actions_on = {}
        for trade in trades:
            self.trades_on.setdefault(trade.day, []).append(trade)
        for action in actions:
            self.actions_on.setdefault(action.ex, []).append(action)
        busy = list(self.trades_on) + list(self.actions_on) + [action.pay for action in actions]
        # Between these days no book changes, so the others need not be gone through.
        self.days = sorted(set(busy))


def go_ex(book, actions):
    # Each action counts on the evening before, whatever the others of its ex-day change.
    before = list(book.quantities)
    for action in actions:
        brought = entitlement(action, before[action.thing])
        book.quantities[action.thing] += brought.change
        book.quantities[action.other] += brought.spun
        book.dues.append(brought.due)


def take_in(book, day):
    still_due = []
    for due in book.dues:
        if due.pay > day:
            still_due.append(due)
        else:
            book.cash += due.cash
            book.quantities[due.thing] += due.quantity
    book.dues = still_due


def settle(book, trades):
    for trade in trades:
        book.quantities[trade.thing] += trade.quantity
        if trade.quantity > 0:
            book.cash -= trade.money
        else:
            book.cash += trade.money


def pass_day(book, diary, day):
    """Turns the book of the evening before into that of this day's evening."""
    go_ex(book, diary.actions_on.get(day, []))
    take_in(book, day)
    settle(book, diary.trades_on.get(day, []))


def book_of_evening(trades, actions, evening):
    book = Book()
    diary = Diary(trades, actions)
    for day in diary.days:
        if day <= evening:
            pass_day(book, diary, day)
    return book


def is_possible(book):
    return min(book.quantities) >= 0 and max(book.quantities) <= GREATEST_QUANTITY


def are_possible(trades, actions):
    """Whether on every evening of every day each quantity is one that may be held."""
    book = Book()
    diary = Diary(trades, actions)
    for day in diary.days:
        pass_day(book, diary, day)
        if not is_possible(book):
            return False
    return True
