"""Calls written by name, and their answers taken apart, for the tests."""

from heldthingsdesk.actions import Action, DIVIDEND, RIGHTS, SPINOFF, SPLIT, TAKEOVER
from heldthingsdesk.books import ARGUMENTS, answers
from heldthingsdesk.ledger import Trade, book_of_evening

LEAST = -2 ** 63
GREATEST = 2 ** 63 - 1
MANY = 10 ** 9
MOST_HELD = 10 ** 15

KIND_OF_CALL = {3: DIVIDEND, 4: SPLIT, 5: SPINOFF, 6: RIGHTS, 7: TAKEOVER}


def begin():
    return [0]


def today(day):
    return [1, day]


def trade(day, thing, quantity, money=0):
    return [2, day, thing, quantity, money]


def dividend(thing, ex, pay, rate=0):
    return [3, thing, ex, pay, rate]


def split(thing, ex, pay, a, b, price=0):
    return [4, thing, ex, pay, a, b, price]


def spinoff(thing, other, ex, pay, a, b, price=0):
    return [5, thing, other, ex, pay, a, b, price]


def rights(thing, ex, pay, last, a, b, price=0, for_each=0, choice=0):
    return [6, thing, ex, pay, last, a, b, price, for_each, choice]


def takeover(thing, other, ex, pay, last, a, b, for_each=0, price=0, choice=0):
    return [7, thing, other, ex, pay, last, a, b, for_each, price, choice]


def choose(number, choice):
    return [8, number, choice]


def price(day, thing, each):
    return [9, day, thing, each]


def position(day, thing):
    return [10, day, thing]


def positions(day):
    return [11, day]


def cash(day):
    return [12, day]


def due(day):
    return [13, day]


def value(day):
    return [14, day]


def entitled(number):
    return [15, number]


def action(number):
    return [16, number]


def counts():
    return [17]


def joined(calls):
    return [number for call in calls for number in call]


def taken_apart(flat):
    rows = []
    at = 0
    while at < len(flat):
        rows.append(flat[at + 1:at + 1 + flat[at]])
        at += 1 + flat[at]
    return rows


def rows_of(*calls):
    """The answers to the calls, each a list of numbers."""
    rows = taken_apart(answers(joined(calls)))
    assert len(rows) == len(calls), rows
    return rows


def tell(*calls):
    """The answers to the calls, which all are of one number."""
    rows = rows_of(*calls)
    assert all(len(row) == 1 for row in rows), rows
    return [row[0] for row in rows]


def ask(told, *questions):
    """The answers to questions, asked after all that was told was let in."""
    rows = rows_of(*told, *questions)
    assert all(row[0] >= 0 for row in rows[:len(told)]), rows
    return rows[len(told):]


def all_questions(days, actions):
    """Every question about these days and about as many actions: all that can be seen from outside."""
    asked = [counts()]
    for day in days:
        asked += [positions(day), cash(day), due(day), value(day)]
    for number in range(1, actions + 1):
        asked += [entitled(number), action(number)]
    return asked


def last_of(*calls):
    return tell(*calls)[-1]


def book(calls, evening):
    """The book of an evening after trades and actions that are all taken."""
    trades = []
    actions = []
    for call in calls:
        told = dict(zip(ARGUMENTS[call[0]], call[1:]))
        if call[0] == 2:
            trades.append(Trade(told))
        else:
            actions.append(Action(KIND_OF_CALL[call[0]], told))
    return book_of_evening(trades, actions, evening)


def dues(calls, evening):
    return [(one.pay, one.cash, one.thing, one.quantity) for one in book(calls, evening).dues]


def full_of(thing):
    """Calls after which 10 ** 15 of the thing are held from the evening of day 2 on."""
    return [trade(0, thing, MANY), split(thing, 1, 1, 1000, 1), split(thing, 2, 2, 1000, 1)]
