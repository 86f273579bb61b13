"""What has been told, and the calls that tell it.

Each call answers a list of numbers: one below 0 if it refuses, and then it has changed nothing.
"""

from heldthingsdesk.actions import Action, DIVIDEND, RIGHTS, SPINOFF, SPLIT, TAKEOVER
from heldthingsdesk.ledger import Trade, are_possible
from heldthingsdesk.limits import FULL, MOST_ACTIONS, MOST_PRICES, MOST_TRADES, NOT_FITTING, NOT_THERE
from heldthingsdesk.limits import OUT_OF_RANGE, PAY_TOO_EARLY, QUANTITY_IMPOSSIBLE, TOLD_ALREADY, TOO_LATE
from heldthingsdesk.prices import Price, is_priced


class Desk:
    def __init__(self):
        self.today = 0
        self.trades = []
        self.actions = []
        self.prices = []


def tell_begin(desk, told):
    new = Desk()
    desk.today = new.today
    desk.trades = new.trades
    desk.actions = new.actions
    desk.prices = new.prices
    return [0]


def tell_today(desk, told):
    if told["day"] < desk.today:
        return [OUT_OF_RANGE]
    desk.today = told["day"]
    return [0]


def tell_trade(desk, told):
    if told["quantity"] == 0:
        return [NOT_FITTING]
    if len(desk.trades) >= MOST_TRADES:
        return [FULL]
    trades = desk.trades + [Trade(told)]
    if not are_possible(trades, desk.actions):
        return [QUANTITY_IMPOSSIBLE]
    desk.trades = trades
    return [len(trades)]


def is_replaced_already(desk, action):
    """Whether what is held of the thing is split or taken over on that ex-day by another action."""
    rivals = [one for one in desk.actions if one.replaces_holding()]
    return any([one.thing == action.thing and one.ex == action.ex for one in rivals])


def tell_action(desk, action):
    """The refusals that all actions share, and what is done if there is none."""
    if action.pay < action.ex:
        return [PAY_TOO_EARLY]
    if action.replaces_holding() and is_replaced_already(desk, action):
        return [TOLD_ALREADY]
    if len(desk.actions) >= MOST_ACTIONS:
        return [FULL]
    actions = desk.actions + [action]
    if not are_possible(desk.trades, actions):
        return [QUANTITY_IMPOSSIBLE]
    desk.actions = actions
    return [len(actions)]


def tell_dividend(desk, told):
    return tell_action(desk, Action(DIVIDEND, told))


def tell_split(desk, told):
    return tell_action(desk, Action(SPLIT, told))


def tell_spinoff(desk, told):
    if told["other"] == told["thing"]:
        return [NOT_FITTING]
    return tell_action(desk, Action(SPINOFF, told))


def tell_rights(desk, told):
    if told["pay"] < told["last"]:
        return [PAY_TOO_EARLY]
    return tell_action(desk, Action(RIGHTS, told))


def tell_takeover(desk, told):
    if told["other"] == told["thing"]:
        return [NOT_FITTING]
    if told["pay"] < told["last"]:
        return [PAY_TOO_EARLY]
    return tell_action(desk, Action(TAKEOVER, told))


def tell_choose(desk, told):
    number = told["number"]
    if number > len(desk.actions):
        return [NOT_THERE]
    action = desk.actions[number - 1]
    if not action.has_choice():
        return [NOT_FITTING]
    if action.last < desk.today:
        return [TOO_LATE]
    actions = list(desk.actions)
    actions[number - 1] = action.with_choice(told["choice"])
    if not are_possible(desk.trades, actions):
        return [QUANTITY_IMPOSSIBLE]
    desk.actions = actions
    return [action.choice]


def tell_price(desk, told):
    if is_priced(desk.prices, told["day"], told["thing"]):
        return [TOLD_ALREADY]
    if len(desk.prices) >= MOST_PRICES:
        return [FULL]
    desk.prices = desk.prices + [Price(told)]
    return [0]


TELLINGS = {
    0: tell_begin,
    1: tell_today,
    2: tell_trade,
    3: tell_dividend,
    4: tell_split,
    5: tell_spinoff,
    6: tell_rights,
    7: tell_takeover,
    8: tell_choose,
    9: tell_price,
}


def tell(desk, call, told):
    return TELLINGS[call](desk, told)
