"""The way in: a list of calls, one behind another, and the list of their answers."""

from heldthingsdesk.desk import Desk, answer

ARGUMENTS = {
    0: (),
    1: ("day",),
    2: ("day", "thing", "quantity", "money"),
    3: ("thing", "ex", "pay", "rate"),
    4: ("thing", "ex", "pay", "a", "b", "price"),
    5: ("thing", "other", "ex", "pay", "a", "b", "price"),
    6: ("thing", "ex", "pay", "last", "a", "b", "price", "for_each", "choice"),
    7: ("thing", "other", "ex", "pay", "last", "a", "b", "for_each", "price", "choice"),
    8: ("number", "choice"),
}


def answers(calls):
    desk = Desk()
    answered = []
    at = 0
    while at < len(calls):
        names = ARGUMENTS[calls[at]]
        behind = at + 1 + len(names)
        told = dict(zip(names, calls[at + 1:behind]))
        said = answer(desk, calls[at], told)
        answered.append(len(said))
        answered.extend(said)
        at = behind
    return answered
