"""The way in: a list of calls, one behind another, and the list of their answers."""

from heldthingsdesk.desk import Desk, tell
from heldthingsdesk.limits import OUT_OF_RANGE, are_within
from heldthingsdesk.questions import ask

ARGUMENTS = {
    0: (),
    1: ("day",),
    2: ("day", "thing", "quantity", "money"),
    3: ("thing", "ex", "pay", "rate"),
    4: ("thing", "ex", "pay", "a", "b", "price"),
    5: ("thing", "other", "ex", "pay", "a", "b", "price"),
    6: ("thing", "ex", "pay", "last", "a", "b", "price", "for_each", "choice"),
    7: ("thing", "other", "ex", "pay", "last", "a", "b", "for_each", "price", "choice"),
    8: ("number", "choice"),
    9: ("day", "thing", "price"),
    10: ("day", "thing"),
    11: ("day",),
    12: ("day",),
    13: ("day",),
    14: ("day",),
    15: ("number",),
    16: ("number",),
    17: (),
}

FIRST_QUESTION = 10


def answer(desk, call, told):
    # Each call tells this refusal before its others, so they may count on numbers within range.
    if not are_within(told):
        return [OUT_OF_RANGE]
    if call >= FIRST_QUESTION:
        return ask(desk, call, told)
    return tell(desk, call, told)


def answers(calls):
    desk = Desk()
    answered = []
    at = 0
    while at < len(calls):
        names = ARGUMENTS[calls[at]]
        behind = at + 1 + len(names)
        told = dict(zip(names, calls[at + 1:behind]))
        said = answer(desk, calls[at], told)
        answered.append(len(said))
        answered.extend(said)
        at = behind
    return answered
