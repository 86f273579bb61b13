"""The edges of every range of every call, and that what is outside changes nothing."""

import unittest

from tests.lines import GREATEST, LEAST, MANY, book, dividend, rights, split, takeover, tell, today, trade

HUGE = 10 ** 12
THING = (1, 12)
DAY = (0, 100000)
PRICE = (0, HUGE)
RATIO = (1, 1000)

# What each call stands on, its number, and each of its numbers: an ordinary one, the least, the greatest.
CALLS = {
    "today": ([], 1, [(7, DAY)]),
    "buy": ([], 2, [(7, DAY), (5, THING), (3, (1, MANY)), (9, (0, HUGE))]),
    "sell": (
        [trade(0, thing, MANY) for thing in range(1, 13)],
        2,
        [(7, DAY), (5, THING), (-3, (-MANY, -1)), (9, (0, HUGE))],
    ),
    "dividend": ([], 3, [(5, THING), (0, DAY), (100000, DAY), (9, PRICE)]),
    "split": ([], 4, [(5, THING), (0, DAY), (100000, DAY), (2, RATIO), (3, RATIO), (9, PRICE)]),
    "spinoff": ([], 5, [(5, THING), (6, THING), (0, DAY), (100000, DAY), (2, RATIO), (3, RATIO), (9, PRICE)]),
    "rights": (
        [],
        6,
        [(5, THING), (0, DAY), (100000, DAY), (0, DAY), (2, RATIO), (3, RATIO), (9, PRICE), (8, PRICE), (7, PRICE)],
    ),
    "takeover": (
        [],
        7,
        [(5, THING), (6, THING), (0, DAY), (100000, DAY), (0, DAY), (2, RATIO), (3, RATIO),
         (9, PRICE), (8, PRICE), (7, PRICE)],
    ),
    "choose": ([rights(5, 0, 9, 9, 1, 1)], 8, [(1, (1, 1)), (4, PRICE)]),
}


def with_number(call, numbers, place, number):
    ordinary = [pair[0] for pair in numbers]
    return [call] + ordinary[:place] + [number] + ordinary[place + 1:]


def outside(name, place, edges):
    """The numbers that are not within; what is not within an edge of another reason is left out."""
    far = [LEAST, LEAST + 1, GREATEST - 1, GREATEST]
    if (name, place) == ("buy", 2):
        return [MANY + 1] + far
    if (name, place) == ("sell", 2):
        return [-MANY - 1] + far
    if (name, place) == ("choose", 0):
        return [0, -1, 1000001] + far
    return [edges[0] - 1, edges[1] + 1] + far


class RangeTest(unittest.TestCase):
    def walk(self):
        for name, (before, call, numbers) in CALLS.items():
            for place, (ordinary, edges) in enumerate(numbers):
                yield name, before, call, numbers, place, edges

    def test_least_and_greatest_are_let_in(self):
        for name, before, call, numbers, place, edges in self.walk():
            for number in edges:
                with self.subTest(name=name, place=place, number=number):
                    told = with_number(call, numbers, place, number)
                    self.assertGreaterEqual(tell(*before, told)[-1], 0)

    def test_outside_is_refused_and_changes_nothing(self):
        for name, before, call, numbers, place, edges in self.walk():
            ordinary = [call] + [pair[0] for pair in numbers]
            as_if_first = tell(*before, ordinary)[-1]
            for number in outside(name, place, edges):
                with self.subTest(name=name, place=place, number=number):
                    told = with_number(call, numbers, place, number)
                    self.assertEqual(tell(*before, told, ordinary)[-2:], [-1, as_if_first])

    def test_each_number_outside_at_once(self):
        for name, (before, call, numbers) in CALLS.items():
            for number in (LEAST, GREATEST):
                with self.subTest(name=name, number=number):
                    self.assertEqual(tell(*before, [call] + [number] * len(numbers))[-1], -1)

    def test_the_number_of_an_action_may_be_a_million(self):
        self.assertEqual(tell([8, 1000000, 0], [8, 1000001, 0], [8, 1, 0], [8, 0, 0]), [-4, -1, -4, -1])

    def test_a_quantity_of_0_is_within_its_range(self):
        self.assertEqual(tell(trade(0, 1, 0)), [-6])


class GreatestNumbersTest(unittest.TestCase):
    def test_the_greatest_of_all_at_once_stay_exact(self):
        calls = [
            trade(0, 1, MANY, HUGE),
            split(1, 1, 1, 1000, 1, HUGE),
            split(1, 2, 2, 1000, 1, HUGE),
            dividend(1, 3, 100000, HUGE),
            takeover(1, 2, 4, 100000, 100000, 1000, 1, HUGE, HUGE, HUGE),
        ]
        self.assertEqual(tell(*calls), [1, 1, 2, 3, 4])
        evening = book(calls, 100000)
        self.assertEqual(evening.cash, -HUGE + 10 ** 21 + (10 ** 15 - HUGE) * 10 ** 6)
        self.assertEqual(evening.quantities[1:3], [0, 10 ** 15])

    def test_every_thing_and_the_last_day(self):
        calls = [trade(100000, thing, MANY) for thing in range(1, 13)]
        self.assertEqual(tell(*calls), list(range(1, 13)))
        self.assertEqual(tell(today(100000), today(100000), today(100001), today(99999)), [0, 0, -1, -1])


if __name__ == "__main__":
    unittest.main()
