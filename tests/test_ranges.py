"""The edges of every range of every call, and that what is outside changes nothing."""

import unittest

from tests.lines import GREATEST, LEAST, MANY, all_questions, ask, book, dividend, price, rights, rows_of, split
from tests.lines import takeover, tell, today, trade

HUGE = 10 ** 12
THING = (1, 12)
DAY = (0, 100000)
PRICE = (0, HUGE)
RATIO = (1, 1000)

# What each call stands on, its number, and each of its numbers: an ordinary one, the least, the greatest.
CALLS = {
    "today": ([], 1, [(7, DAY)]),
    "buy": ([], 2, [(7, DAY), (5, THING), (3, (1, MANY)), (9, (0, HUGE))]),
    "sell": (
        [trade(0, thing, MANY) for thing in range(1, 13)],
        2,
        [(7, DAY), (5, THING), (-3, (-MANY, -1)), (9, (0, HUGE))],
    ),
    "dividend": ([], 3, [(5, THING), (0, DAY), (100000, DAY), (9, PRICE)]),
    "split": ([], 4, [(5, THING), (0, DAY), (100000, DAY), (2, RATIO), (3, RATIO), (9, PRICE)]),
    "spinoff": ([], 5, [(5, THING), (6, THING), (0, DAY), (100000, DAY), (2, RATIO), (3, RATIO), (9, PRICE)]),
    "rights": (
        [],
        6,
        [(5, THING), (0, DAY), (100000, DAY), (0, DAY), (2, RATIO), (3, RATIO), (9, PRICE), (8, PRICE), (7, PRICE)],
    ),
    "takeover": (
        [],
        7,
        [(5, THING), (6, THING), (0, DAY), (100000, DAY), (0, DAY), (2, RATIO), (3, RATIO),
         (9, PRICE), (8, PRICE), (7, PRICE)],
    ),
    "choose": ([rights(5, 0, 9, 9, 1, 1)], 8, [(1, (1, 1)), (4, PRICE)]),
    "price": ([], 9, [(7, DAY), (5, THING), (9, PRICE)]),
    "position": ([trade(0, 5, 3)], 10, [(7, DAY), (5, THING)]),
    "positions": ([trade(0, 5, 3)], 11, [(7, DAY)]),
    "cash": ([trade(0, 5, 3, 2)], 12, [(7, DAY)]),
    "due": ([trade(0, 5, 3), dividend(5, 1, 9, 10 ** 6)], 13, [(7, DAY)]),
    "value": ([trade(0, 5, 3, 2)], 14, [(7, DAY)]),
    "entitled": ([rights(5, 0, 9, 9, 1, 1)], 15, [(1, (1, 1))]),
    "action": ([rights(5, 0, 9, 9, 1, 1)], 16, [(1, (1, 1))]),
}


def with_number(call, numbers, place, number):
    ordinary = [pair[0] for pair in numbers]
    return [call] + ordinary[:place] + [number] + ordinary[place + 1:]


def outside(name, place, edges):
    """The numbers that are not within; what is not within an edge of another reason is left out."""
    far = [LEAST, LEAST + 1, GREATEST - 1, GREATEST]
    if (name, place) == ("buy", 2):
        return [MANY + 1] + far
    if (name, place) == ("sell", 2):
        return [-MANY - 1] + far
    if place == 0 and name in ("choose", "entitled", "action"):
        return [0, -1, 1000001] + far
    return [edges[0] - 1, edges[1] + 1] + far


class RangeTest(unittest.TestCase):
    def walk(self):
        for name, (before, call, numbers) in CALLS.items():
            for place, (ordinary, edges) in enumerate(numbers):
                yield name, before, call, numbers, place, edges

    def test_least_and_greatest_are_let_in(self):
        for name, before, call, numbers, place, edges in self.walk():
            for number in edges:
                with self.subTest(name=name, place=place, number=number):
                    told = with_number(call, numbers, place, number)
                    self.assertGreaterEqual(rows_of(*before, told)[-1][0], 0)

    def test_outside_is_refused_and_changes_nothing(self):
        for name, before, call, numbers, place, edges in self.walk():
            ordinary = [call] + [pair[0] for pair in numbers]
            as_if_first = rows_of(*before, ordinary)[-1]
            asked = all_questions((0, 7, 100000), len(before))
            seen = rows_of(*before, *asked)[len(before):]
            for number in outside(name, place, edges):
                with self.subTest(name=name, place=place, number=number):
                    told = with_number(call, numbers, place, number)
                    rows = rows_of(*before, told, *asked, ordinary)[len(before):]
                    self.assertEqual(rows, [[-1]] + seen + [as_if_first])

    def test_each_number_outside_at_once(self):
        for name, (before, call, numbers) in CALLS.items():
            for number in (LEAST, GREATEST):
                with self.subTest(name=name, number=number):
                    self.assertEqual(rows_of(*before, [call] + [number] * len(numbers))[-1], [-1])

    def test_the_number_of_an_action_may_be_a_million(self):
        self.assertEqual(tell([8, 1000000, 0], [8, 1000001, 0], [8, 1, 0], [8, 0, 0]), [-4, -1, -4, -1])
        for call in (15, 16):
            self.assertEqual(tell([call, 1000000], [call, 1000001], [call, 1], [call, 0]), [-4, -1, -4, -1])

    def test_every_call_with_numbers_is_walked(self):
        self.assertEqual(sorted({call for before, call, numbers in CALLS.values()}), list(range(1, 17)))

    def test_a_quantity_of_0_is_within_its_range(self):
        self.assertEqual(tell(trade(0, 1, 0)), [-6])


class GreatestNumbersTest(unittest.TestCase):
    def test_the_greatest_of_all_at_once_stay_exact(self):
        calls = [
            trade(0, 1, MANY, HUGE),
            split(1, 1, 1, 1000, 1, HUGE),
            split(1, 2, 2, 1000, 1, HUGE),
            dividend(1, 3, 100000, HUGE),
            takeover(1, 2, 4, 100000, 100000, 1000, 1, HUGE, HUGE, HUGE),
        ]
        self.assertEqual(tell(*calls), [1, 1, 2, 3, 4])
        evening = book(calls, 100000)
        self.assertEqual(evening.cash, -HUGE + 10 ** 21 + (10 ** 15 - HUGE) * 10 ** 6)
        self.assertEqual(evening.quantities[1:3], [0, 10 ** 15])

    def test_the_greatest_of_all_at_once_as_seen_from_outside(self):
        told = [
            trade(0, 1, MANY, HUGE),
            split(1, 1, 1, 1000, 1, HUGE),
            split(1, 2, 2, 1000, 1, HUGE),
            rights(1, 3, 100000, 100000, 1000, 1, HUGE, HUGE, 0),
            takeover(1, 12, 3, 100000, 100000, 1000, 1, HUGE, HUGE, HUGE),
            price(100000, 12, HUGE),
        ]
        coins = 10 ** 24 + (10 ** 15 - HUGE) * 10 ** 6
        self.assertEqual(ask(told, [15, 3], [15, 4], [12, 100000], [10, 100000, 12], [14, 3], [14, 100000]), [
            [10 ** 15, 0, 0, 100000, 10 ** 24, 1, 0],
            [10 ** 15, -10 ** 15, 0, 100000, (10 ** 15 - HUGE) * 10 ** 6, 12, 10 ** 15],
            [0, coins - HUGE],
            [10 ** 15],
            [0, (coins - HUGE) * 10 ** 6],
            [0, (coins - HUGE) * 10 ** 6 + 10 ** 15 * HUGE],
        ])

    def test_every_thing_and_the_last_day(self):
        calls = [trade(100000, thing, MANY) for thing in range(1, 13)]
        self.assertEqual(tell(*calls), list(range(1, 13)))
        self.assertEqual(tell(today(100000), today(100000), today(100001), today(99999)), [0, 0, -1, -1])


if __name__ == "__main__":
    unittest.main()
