"""The five kinds of actions, and what each brings to a holder of its thing."""

DIVIDEND = 1
SPLIT = 2
SPINOFF = 3
RIGHTS = 4
TAKEOVER = 5

MILLION = 1000000


class Action:
    """An action as it was told; it is never changed, another choice makes another one."""

    def __init__(self, kind, told):
        self.kind = kind
        self.told = told
        self.thing = told["thing"]
        self.other = told.get("other", 0)
        self.ex = told["ex"]
        self.pay = told["pay"]
        self.last = told.get("last", 0)
        self.a = told.get("a", 1)
        self.b = told.get("b", 1)
        self.rate = told.get("rate", 0)
        self.price = told.get("price", 0)
        self.for_each = told.get("for_each", 0)
        self.choice = told.get("choice", 0)

    def with_choice(self, choice):
        told = dict(self.told)
        told["choice"] = choice
        return Action(self.kind, told)

    def has_choice(self):
        return self.kind == RIGHTS or self.kind == TAKEOVER

    def replaces_holding(self):
        return self.kind == SPLIT or self.kind == TAKEOVER


class Due:
    """What comes in on a pay-day: cash, and a quantity of a thing (0: of none)."""

    def __init__(self, pay, cash, thing, quantity):
        self.pay = pay
        self.cash = cash
        self.thing = thing
        self.quantity = quantity


class Entitlement:
    """What an action brings for the quantity held on the evening before its ex-day.

    change is by how much its thing changes on the ex-day, spun how many of the other thing come then.
    """

    def __init__(self, held, change, spun, due):
        self.held = held
        self.change = change
        self.spun = spun
        self.due = due


def first_price(action):
    """The rate, the price for parts, the right's price, or the cash for each of a take-over."""
    if action.kind == DIVIDEND:
        return action.rate
    if action.kind == TAKEOVER:
        return action.for_each
    return action.price


def second_price(action):
    """What has to be paid for each right, or a take-over's price for parts; the others have none."""
    if action.kind == RIGHTS:
        return action.for_each
    if action.kind == TAKEOVER:
        return action.price
    return 0


def over_million_up(amount):
    # // rounds down, so it rounds up on the other side of 0.
    return -(-amount // MILLION)


def whole(number, action):
    return number * action.a // action.b


def parts(number, action):
    """The cash for what makes no whole."""
    return (number * action.a) % action.b * action.price // (action.b * MILLION)


def of_dividend(action, held):
    cash = held * action.rate // MILLION
    return Entitlement(held, 0, 0, Due(action.pay, cash, 0, 0))


def of_split(action, held):
    change = whole(held, action) - held
    return Entitlement(held, change, 0, Due(action.pay, parts(held, action), 0, 0))


def of_spinoff(action, held):
    return Entitlement(held, 0, whole(held, action), Due(action.pay, parts(held, action), 0, 0))


def of_rights(action, held):
    rights = whole(held, action)
    used = min(action.choice, rights)
    sold_for = (rights - used) * action.price // MILLION
    cash = sold_for - over_million_up(used * action.for_each)
    return Entitlement(held, 0, 0, Due(action.pay, cash, action.thing, used))


def of_takeover(action, held):
    exchanged = min(action.choice, held)
    paid = (held - exchanged) * action.for_each // MILLION
    cash = paid + parts(exchanged, action)
    return Entitlement(held, -held, 0, Due(action.pay, cash, action.other, whole(exchanged, action)))


def entitlement(action, held):
    if action.kind == DIVIDEND:
        return of_dividend(action, held)
    if action.kind == SPLIT:
        return of_split(action, held)
    if action.kind == SPINOFF:
        return of_spinoff(action, held)
    if action.kind == RIGHTS:
        return of_rights(action, held)
    return of_takeover(action, held)
