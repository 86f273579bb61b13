"""Many made-up lines, answered by the program and by a plain model that goes through every single day."""

import random
import unittest

from heldthingsdesk.books import ARGUMENTS
from tests.lines import all_questions, full_of, rows_of

DAYS = 9
MOST = 10 ** 15
MILLION = 10 ** 6

# The calls that lines are made of, the more often written the more often there.
TELLING = (2, 2, 2, 2, 2, 3, 4, 5, 6, 7, 8, 8, 8, 9, 9)
ASKING = (10, 11, 12, 13, 14, 15, 16, 17)


class Model:
    """The document's words as one heap of rows; days are gone through one by one."""

    def __init__(self):
        self.day = 0
        self.trades = []
        self.actions = []
        self.prices = {}

    def evenings(self, trades, actions):
        held = {thing: 0 for thing in range(1, 13)}
        cash = 0
        waiting = []
        result = []
        for day in range(DAYS + 1):
            before = dict(held)
            for call, row in actions:
                if row["ex"] != day:
                    continue
                q = before[row["thing"]]
                money, thing, quantity = self.bring(call, row, q, held)
                waiting.append((row["pay"], money, thing, quantity))
            for pay, money, thing, quantity in [due for due in waiting if due[0] <= day]:
                cash += money
                if thing:
                    held[thing] += quantity
            waiting = [due for due in waiting if due[0] > day]
            for row in trades:
                if row["day"] == day:
                    held[row["thing"]] += row["quantity"]
                    cash += row["money"] if row["quantity"] < 0 else -row["money"]
            result.append((dict(held), cash, list(waiting)))
            if any(not 0 <= quantity <= MOST for quantity in held.values()):
                return None
        return result

    def bring(self, call, row, q, held):
        if call == 3:
            return q * row["rate"] // MILLION, 0, 0
        a, b = row["a"], row["b"]
        if call == 4:
            held[row["thing"]] += q * a // b - q
            return self.parts(q, row), 0, 0
        if call == 5:
            held[row["other"]] += q * a // b
            return self.parts(q, row), 0, 0
        if call == 6:
            n = q * a // b
            k = min(n, row["choice"])
            to_pay = (k * row["for_each"] + MILLION - 1) // MILLION
            return (n - k) * row["price"] // MILLION - to_pay, row["thing"], k
        held[row["thing"]] -= q
        k = min(q, row["choice"])
        return (q - k) * row["for_each"] // MILLION + self.parts(k, row), row["other"], k * a // b

    def parts(self, n, row):
        return n * row["a"] % row["b"] * row["price"] // (row["b"] * MILLION)

    def answer(self, call, row):
        if call >= 10:
            return self.question(call, row)
        if call == 0:
            self.__init__()
            return [0]
        if call == 1:
            if row["day"] < self.day:
                return [-1]
            self.day = row["day"]
            return [0]
        if call == 2:
            return [self.trade(row)]
        if call == 8:
            return [self.choose(row)]
        if call == 9:
            return [self.price(row)]
        return [self.action(call, row)]

    def price(self, row):
        key = (row["thing"], row["day"])
        if key in self.prices:
            return -5
        self.prices[key] = row["price"]
        return 0

    def question(self, call, row):
        if call == 17:
            return [self.day, len(self.trades), len(self.actions), len(self.prices)]
        evenings = self.evenings(self.trades, self.actions)
        if call in (15, 16):
            if row["number"] > len(self.actions):
                return [-4]
            return self.entitled(evenings, row) if call == 15 else self.terms(row)
        held, cash, waiting = evenings[row["day"]]
        if call == 10:
            return [held[row["thing"]]]
        if call == 11:
            return list(held.values())
        if call == 12:
            return [0, cash]
        if call == 13:
            return [len(waiting)] + [number for due in waiting for number in due]
        return [0, self.value(held, cash, waiting, row["day"])]

    def value(self, held, cash, waiting, evening):
        total = MILLION * (cash + sum(due[1] for due in waiting))
        for thing in held:
            days = [day for what, day in self.prices if what == thing and day <= evening]
            if days:
                quantity = held[thing] + sum(due[3] for due in waiting if due[2] == thing)
                total += quantity * self.prices[(thing, max(days))]
        return total

    def entitled(self, evenings, row):
        call, told = self.actions[row["number"] - 1]
        q = evenings[told["ex"] - 1][0][told["thing"]] if told["ex"] else 0
        changed = {thing: 0 for thing in range(13)}
        money, thing, quantity = self.bring(call, told, q, changed)
        return [q, changed[told["thing"]], changed[told.get("other", 0)], told["pay"], money, thing, quantity]

    def terms(self, row):
        call, told = self.actions[row["number"] - 1]
        prices = {3: ("rate", None), 6: ("price", "for_each"), 7: ("for_each", "price")}
        first, second = prices.get(call, ("price", None))
        names = ("thing", "other", "ex", "pay", "last")
        ratio = [told.get("a", 1), told.get("b", 1)]
        behind = [told[first], told.get(second, 0), told.get("choice", 0)]
        return [call - 2] + [told.get(name, 0) for name in names] + ratio + behind

    def trade(self, row):
        if row["quantity"] == 0:
            return -6
        if self.evenings(self.trades + [row], self.actions) is None:
            return -7
        self.trades.append(row)
        return len(self.trades)

    def action(self, call, row):
        if row.get("other") == row["thing"]:
            return -6
        if row["pay"] < max(row["ex"], row.get("last", 0)):
            return -3
        if call in (4, 7):
            for other, told in self.actions:
                if other in (4, 7) and (told["thing"], told["ex"]) == (row["thing"], row["ex"]):
                    return -5
        if len(self.actions) == 30:
            return -8
        if self.evenings(self.trades, self.actions + [(call, row)]) is None:
            return -7
        self.actions.append((call, row))
        return len(self.actions)

    def choose(self, row):
        if row["number"] > len(self.actions):
            return -4
        call, told = self.actions[row["number"] - 1]
        if call not in (6, 7):
            return -6
        if told["last"] < self.day:
            return -9
        changed = list(self.actions)
        changed[row["number"] - 1] = (call, dict(told, choice=row["choice"]))
        if self.evenings(self.trades, changed) is None:
            return -7
        self.actions = changed
        return told["choice"]


def made_up(source, great):
    """A number for each name, such that days, things and refusals often meet."""
    held = 10 ** 9 if great else 30
    early = source.randint(0, DAYS)
    late = min(DAYS, max(0, early + source.randint(-1, 4)))
    return {
        "day": source.randint(0, DAYS),
        "thing": source.randint(1, 3),
        "other": source.randint(1, 3),
        "quantity": source.choice((held, source.randint(1, held), source.randint(-held, held), -source.randint(0, 9))),
        "money": source.randint(0, 1000),
        "ex": early,
        "pay": late,
        "last": max(0, late - source.randint(-1, 4)),
        "a": source.choice((1, 2, 3, source.randint(1, 1000), 1000 if great else 1)),
        "b": source.choice((1, 2, 3, 1 if great else source.randint(1, 9))),
        "price": source.randint(0, 9999999),
        "rate": source.randint(0, 9999999),
        "for_each": source.randint(0, 9999999),
        "choice": source.choice((0, source.randint(0, held), 10 ** 12)),
        "number": source.randint(1, 9),
    }


def made_up_line(source, great):
    calls = full_of(source.randint(1, 3)) if great and source.randint(0, 1) else []
    for step in range(source.randint(1, 60)):
        call = source.choice(TELLING if source.randint(1, 5) > 1 else ASKING)
        if source.randint(1, 60) == 1:
            call = source.choice((0, 1))
        numbers = made_up(source, great)
        if call == 1:
            numbers["day"] = source.randint(0, 3)
        calls.append([call] + [numbers[name] for name in ARGUMENTS[call]])
    return calls


def named(call):
    return dict(zip(ARGUMENTS[call[0]], call[1:]))


class ModelTest(unittest.TestCase):
    def test_made_up_lines(self):
        source = random.Random(20261116)
        met = {}
        for number in range(1200):
            calls = made_up_line(source, number % 2 == 0)
            # At the end, all that can be seen.
            calls += all_questions(range(DAYS + 1), 9)
            model = Model()
            wanted = [model.answer(call[0], named(call)) for call in calls]
            self.assertEqual(rows_of(*calls), wanted, calls)
            for call, answered in zip(calls, wanted):
                if answered[0] < 0:
                    met[(call[0], answered[0])] = True
        for pair in ((2, -7), (4, -7), (5, -7), (6, -7), (7, -7), (8, -7), (4, -5), (7, -5), (8, -9)):
            self.assertIn(pair, met)
        for pair in ((9, -5), (15, -4), (16, -4)):
            self.assertIn(pair, met)


if __name__ == "__main__":
    unittest.main()
