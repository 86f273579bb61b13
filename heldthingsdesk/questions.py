"""The calls that ask: they answer from what was told and change nothing.

Each answers a list of numbers: one below 0 if it refuses.
"""

from heldthingsdesk.actions import entitlement, first_price, second_price
from heldthingsdesk.ledger import book_of_evening
from heldthingsdesk.limits import NOT_THERE
from heldthingsdesk.prices import value_of_book


def book_on(desk, day):
    return book_of_evening(desk.trades, desk.actions, day)


def due_numbers(due):
    return [due.pay, due.cash, due.thing, due.quantity]


def ask_position(desk, told):
    return [book_on(desk, told["day"]).quantities[told["thing"]]]


def ask_positions(desk, told):
    # Index 0 stands for no thing.
    return book_on(desk, told["day"]).quantities[1:]


def ask_cash(desk, told):
    return [0, book_on(desk, told["day"]).cash]


def ask_due(desk, told):
    dues = book_on(desk, told["day"]).dues
    answered = [len(dues)]
    for due in dues:
        answered.extend(due_numbers(due))
    return answered


def ask_value(desk, told):
    day = told["day"]
    return [0, value_of_book(book_on(desk, day), desk.prices, day)]


def ask_entitled(desk, told):
    number = told["number"]
    if number > len(desk.actions):
        return [NOT_THERE]
    action = desk.actions[number - 1]
    held = book_on(desk, action.ex - 1).quantities[action.thing]
    brought = entitlement(action, held)
    return [brought.held, brought.change, brought.spun] + due_numbers(brought.due)


def ask_action(desk, told):
    number = told["number"]
    if number > len(desk.actions):
        return [NOT_THERE]
    action = desk.actions[number - 1]
    days = [action.ex, action.pay, action.last]
    terms = [action.a, action.b, first_price(action), second_price(action), action.choice]
    return [action.kind, action.thing, action.other] + days + terms


def ask_counts(desk, told):
    return [desk.today, len(desk.trades), len(desk.actions), len(desk.prices)]


QUESTIONS = {
    10: ask_position,
    11: ask_positions,
    12: ask_cash,
    13: ask_due,
    14: ask_value,
    15: ask_entitled,
    16: ask_action,
    17: ask_counts,
}


def ask(desk, call, told):
    return QUESTIONS[call](desk, told)
