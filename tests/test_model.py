"""Many made-up lines, answered by the program and by a plain model that goes through every single day."""

import random
import unittest

from heldthingsdesk.books import ARGUMENTS
from tests.lines import book, full_of, tell

DAYS = 9
MOST = 10 ** 15
MILLION = 10 ** 6


class Model:
    """The document's words as one heap of rows; days are gone through one by one."""

    def __init__(self):
        self.day = 0
        self.trades = []
        self.actions = []

    def evenings(self, trades, actions):
        held = {thing: 0 for thing in range(1, 13)}
        cash = 0
        waiting = []
        result = []
        for day in range(DAYS + 1):
            before = dict(held)
            for call, row in actions:
                if row["ex"] != day:
                    continue
                q = before[row["thing"]]
                money, thing, quantity = self.bring(call, row, q, held)
                waiting.append((row["pay"], money, thing, quantity))
            for pay, money, thing, quantity in [due for due in waiting if due[0] <= day]:
                cash += money
                if thing:
                    held[thing] += quantity
            waiting = [due for due in waiting if due[0] > day]
            for row in trades:
                if row["day"] == day:
                    held[row["thing"]] += row["quantity"]
                    cash += row["money"] if row["quantity"] < 0 else -row["money"]
            result.append((dict(held), cash, list(waiting)))
            if any(not 0 <= quantity <= MOST for quantity in held.values()):
                return None
        return result

    def bring(self, call, row, q, held):
        if call == 3:
            return q * row["rate"] // MILLION, 0, 0
        a, b = row["a"], row["b"]
        if call == 4:
            held[row["thing"]] += q * a // b - q
            return self.parts(q, row), 0, 0
        if call == 5:
            held[row["other"]] += q * a // b
            return self.parts(q, row), 0, 0
        if call == 6:
            n = q * a // b
            k = min(n, row["choice"])
            to_pay = (k * row["for_each"] + MILLION - 1) // MILLION
            return (n - k) * row["price"] // MILLION - to_pay, row["thing"], k
        held[row["thing"]] -= q
        k = min(q, row["choice"])
        return (q - k) * row["for_each"] // MILLION + self.parts(k, row), row["other"], k * a // b

    def parts(self, n, row):
        return n * row["a"] % row["b"] * row["price"] // (row["b"] * MILLION)

    def answer(self, call, row):
        if call == 0:
            self.__init__()
            return 0
        if call == 1:
            if row["day"] < self.day:
                return -1
            self.day = row["day"]
            return 0
        if call == 2:
            return self.trade(row)
        if call == 8:
            return self.choose(row)
        return self.action(call, row)

    def trade(self, row):
        if row["quantity"] == 0:
            return -6
        if self.evenings(self.trades + [row], self.actions) is None:
            return -7
        self.trades.append(row)
        return len(self.trades)

    def action(self, call, row):
        if row.get("other") == row["thing"]:
            return -6
        if row["pay"] < max(row["ex"], row.get("last", 0)):
            return -3
        if call in (4, 7):
            for other, told in self.actions:
                if other in (4, 7) and (told["thing"], told["ex"]) == (row["thing"], row["ex"]):
                    return -5
        if len(self.actions) == 30:
            return -8
        if self.evenings(self.trades, self.actions + [(call, row)]) is None:
            return -7
        self.actions.append((call, row))
        return len(self.actions)

    def choose(self, row):
        if row["number"] > len(self.actions):
            return -4
        call, told = self.actions[row["number"] - 1]
        if call not in (6, 7):
            return -6
        if told["last"] < self.day:
            return -9
        changed = list(self.actions)
        changed[row["number"] - 1] = (call, dict(told, choice=row["choice"]))
        if self.evenings(self.trades, changed) is None:
            return -7
        self.actions = changed
        return told["choice"]


def made_up(source, great):
    """A number for each name, such that days, things and refusals often meet."""
    held = 10 ** 9 if great else 30
    early = source.randint(0, DAYS)
    late = min(DAYS, max(0, early + source.randint(-1, 4)))
    return {
        "day": source.randint(0, DAYS),
        "thing": source.randint(1, 3),
        "other": source.randint(1, 3),
        "quantity": source.choice((held, source.randint(1, held), source.randint(-held, held), -source.randint(0, 9))),
        "money": source.randint(0, 1000),
        "ex": early,
        "pay": late,
        "last": max(0, late - source.randint(-1, 4)),
        "a": source.choice((1, 2, 3, source.randint(1, 1000), 1000 if great else 1)),
        "b": source.choice((1, 2, 3, 1 if great else source.randint(1, 9))),
        "price": source.randint(0, 9999999),
        "rate": source.randint(0, 9999999),
        "for_each": source.randint(0, 9999999),
        "choice": source.choice((0, source.randint(0, held), 10 ** 12)),
        "number": source.randint(1, 9),
    }


def made_up_line(source, great):
    calls = full_of(source.randint(1, 3)) if great and source.randint(0, 1) else []
    for step in range(source.randint(1, 40)):
        call = source.choice((2, 2, 2, 2, 2, 3, 4, 5, 6, 7, 8, 8, 8))
        if source.randint(1, 60) == 1:
            call = source.choice((0, 1))
        numbers = made_up(source, great)
        if call == 1:
            numbers["day"] = source.randint(0, 3)
        calls.append([call] + [numbers[name] for name in ARGUMENTS[call]])
    return calls


def telling(model):
    """The calls that tell a new object what the model has now."""
    calls = [[2] + [row[name] for name in ARGUMENTS[2]] for row in model.trades]
    return calls + [[call] + [row[name] for name in ARGUMENTS[call]] for call, row in model.actions]


class ModelTest(unittest.TestCase):
    def test_made_up_lines(self):
        source = random.Random(20261116)
        met = {}
        for number in range(1200):
            calls = made_up_line(source, number % 2 == 0)
            model = Model()
            wanted = [model.answer(call[0], dict(zip(ARGUMENTS[call[0]], call[1:]))) for call in calls]
            self.assertEqual(tell(*calls), wanted, calls)
            for call, answered in zip(calls, wanted):
                if answered < 0:
                    met[(call[0], answered)] = True
            self.compare_books(model)
        for pair in ((2, -7), (4, -7), (5, -7), (6, -7), (7, -7), (8, -7), (4, -5), (7, -5), (8, -9)):
            self.assertIn(pair, met)

    def compare_books(self, model):
        told = telling(model)
        evenings = model.evenings(model.trades, model.actions)
        for day, (held, cash, waiting) in enumerate(evenings):
            got = book(told, day)
            self.assertEqual((got.quantities[1:], got.cash), (list(held.values()), cash))
            due = [(due.pay, due.cash, due.thing, due.quantity) for due in got.dues]
            self.assertEqual(due, waiting)


if __name__ == "__main__":
    unittest.main()
