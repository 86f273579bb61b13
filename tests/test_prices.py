"""The call price, and the value of an evening at the prices told."""

import unittest

from tests.lines import ask, begin, cash, counts, dividend, due, last_of, price, rights, rows_of, spinoff, split
from tests.lines import takeover, tell, today, trade, value

COIN = 10 ** 6


def two_hundred():
    """200 prices, all of another day or thing."""
    return [price(number // 12, 1 + number % 12, number) for number in range(200)]


def values(told, days):
    return [row[1] for row in ask(told, *[value(day) for day in days])]


class PriceTest(unittest.TestCase):
    def test_it_answers_0(self):
        self.assertEqual(tell(price(3, 1, 5), price(3, 2, 0), price(100000, 12, 10 ** 12)), [0, 0, 0])

    def test_once_for_a_day_and_thing(self):
        self.assertEqual(tell(price(3, 1, 5), price(3, 1, 5), price(3, 1, 6), price(4, 1, 5), price(3, 2, 5)),
                         [0, -5, -5, 0, 0])

    def test_a_price_of_0_is_told_too(self):
        self.assertEqual(tell(price(3, 1, 0), price(3, 1, 6)), [0, -5])

    def test_the_two_hundredth_and_the_next(self):
        rows = rows_of(*two_hundred(), counts(), price(99, 1, 1), price(99, 1, 1), counts())
        self.assertEqual(rows[199:], [[0], [0, 0, 0, 200], [-8], [-8], [0, 0, 0, 200]])

    def test_one_hundred_and_ninety_nine_leave_room_for_one(self):
        self.assertEqual(tell(*two_hundred()[:199], price(99, 1, 1), price(99, 2, 1))[-2:], [0, -8])

    def test_range_comes_before_told_already(self):
        self.assertEqual(tell(price(3, 1, 5), price(3, 1, -1), price(3, 1, 10 ** 12 + 1)), [0, -1, -1])

    def test_range_comes_before_full(self):
        self.assertEqual(last_of(*two_hundred(), price(99, 13, 1)), -1)
        self.assertEqual(last_of(*two_hundred(), price(0, 1, -1)), -1)

    def test_told_already_comes_before_full(self):
        self.assertEqual(last_of(*two_hundred(), price(0, 1, 9)), -5)

    def test_refused_prices_do_not_count(self):
        refused = [price(0, 1, 7), price(-1, 1, 1), price(0, 0, 1)]
        got = tell(*two_hundred()[:199], *refused, price(50, 1, 1), price(51, 1, 1))
        self.assertEqual(got[-5:], [-5, -1, -1, 0, -8])

    def test_a_refused_price_leaves_the_one_that_is_there(self):
        told = [trade(0, 1, 2), price(3, 1, 5)]
        rows = rows_of(*told, price(3, 1, 9), price(4, 1, -1), value(3), value(4))
        self.assertEqual(rows[2:], [[-5], [-1], [0, 10], [0, 10]])
        rows = rows_of(trade(0, 1, 2), *two_hundred(), price(99, 1, 9), value(99), value(16))
        self.assertEqual(rows[-3:], [[-8], [0, 2 * 192], [0, 2 * 192]])

    def test_begin_makes_the_prices_new_too(self):
        rows = rows_of(price(3, 1, 5), begin(), counts(), trade(0, 1, 2), value(3), price(3, 1, 6), value(3))
        self.assertEqual(rows[1:], [[0], [0, 0, 0, 0], [1], [0, 0], [0], [0, 12]])
        self.assertEqual(last_of(*two_hundred(), begin(), price(3, 1, 5)), 0)

    def test_today_has_no_say(self):
        self.assertEqual(tell(today(50), price(3, 1, 5), price(99, 1, 5)), [0, 0, 0])


class PriceOfAnEveningTest(unittest.TestCase):
    def test_it_holds_from_its_day_on(self):
        told = [trade(0, 1, 10), price(3, 1, 5), price(6, 1, 7)]
        self.assertEqual(values(told, (0, 2, 3, 5, 6, 7, 100000)), [0, 0, 50, 50, 70, 70, 70])

    def test_told_late_for_an_earlier_day(self):
        told = [trade(0, 1, 10), price(6, 1, 7), price(3, 1, 5), price(0, 1, 1)]
        self.assertEqual(values(told, (0, 2, 3, 5, 6, 7)), [10, 10, 50, 50, 70, 70])

    def test_told_late_it_changes_no_earlier_evening_and_none_behind_the_next_price(self):
        before = values([trade(0, 1, 10), price(2, 1, 3), price(8, 1, 7)], range(12))
        behind = values([trade(0, 1, 10), price(2, 1, 3), price(8, 1, 7), price(5, 1, 4)], range(12))
        self.assertEqual([day for day in range(12) if before[day] != behind[day]], [5, 6, 7])

    def test_it_may_fall_to_0(self):
        told = [trade(0, 1, 10), price(3, 1, 5), price(6, 1, 0)]
        self.assertEqual(values(told, (5, 6, 7)), [50, 0, 0])

    def test_each_thing_has_its_own(self):
        told = [trade(0, thing, 10 ** (thing - 1) if thing < 10 else 10 ** 9) for thing in range(1, 13)]
        told += [price(thing, thing, thing) for thing in range(12, 0, -1)]
        wanted = 0
        for thing in range(1, 13):
            wanted += thing * min(10 ** (thing - 1), 10 ** 9)
            self.assertEqual(values(told, (thing,)), [wanted])
        self.assertEqual(values(told, (0,)), [0])

    def test_a_price_of_another_thing_does_not_count(self):
        told = [trade(0, 1, 10), price(3, 1, 5), price(4, 2, 9), price(3, 12, 8)]
        self.assertEqual(values(told, (3, 4)), [50, 50])

    def test_first_and_last_day(self):
        told = [trade(0, 1, 10), price(100000, 1, 10 ** 12), price(0, 1, 1)]
        self.assertEqual(values(told, (0, 99999, 100000)), [10, 10, 10 ** 13])

    def test_two_hundred_prices_in_either_order(self):
        prices = two_hundred()
        bought = [trade(0, thing, thing) for thing in range(1, 13)]
        wanted = []
        for day in range(20):
            last = [max(each for own, thing, each in [one[1:] for one in prices] if thing == what and own <= day)
                    for what in range(1, 13)]
            wanted.append(sum(what * each for what, each in enumerate(last, start=1)))
        self.assertEqual(values(bought + prices, range(20)), wanted)
        self.assertEqual(values(prices[::-1] + bought, range(20)), wanted)


class ValueTest(unittest.TestCase):
    def test_nothing_told(self):
        self.assertEqual(ask([], value(0), value(100000)), [[0, 0], [0, 0]])

    def test_cash_is_in_coins_and_prices_in_millionths(self):
        told = [trade(1, 1, 10, 300), price(1, 1, 29 * COIN + 999999)]
        self.assertEqual(values(told, (0, 1)), [0, -300 * COIN + 10 * (29 * COIN + 999999)])

    def test_a_thing_without_a_price_is_worth_nothing(self):
        self.assertEqual(values([trade(1, 1, 10, 300)], (0, 1)), [0, -300 * COIN])

    def test_a_value_below_0_and_one_that_is_no_whole_coin(self):
        self.assertEqual(values([trade(1, 1, 1, 1), price(1, 1, 999999)], (1,)), [-1])
        self.assertEqual(values([trade(1, 1, 1, 1), price(1, 1, 1000001)], (1,)), [1])

    def test_cash_due_counts_from_the_ex_day_on(self):
        told = [trade(1, 1, 10), dividend(1, 3, 5, 2 * COIN), price(0, 1, 7)]
        self.assertEqual(values(told, (2, 3, 4, 5)), [70, 70 + 20 * COIN, 70 + 20 * COIN, 70 + 20 * COIN])

    def test_quantities_due_count_at_the_price_of_the_evening(self):
        told = [trade(1, 1, 10), rights(1, 3, 6, 4, 1, 1, 0, 0, 10), price(0, 1, 7), price(4, 1, 5), price(6, 1, 4)]
        self.assertEqual(values(told, (2, 3, 4, 5, 6)), [70, 140, 100, 100, 80])

    def test_cash_due_below_0_counts_too(self):
        told = [trade(1, 1, 10), rights(1, 3, 6, 4, 1, 1, 0, 2 * COIN, 10), price(0, 1, 3 * COIN)]
        self.assertEqual(values(told, (2, 3, 5, 6)), [30 * COIN, 40 * COIN, 40 * COIN, 40 * COIN])

    def test_several_dues_of_several_things(self):
        told = [
            trade(0, 1, 10), trade(0, 2, 20), trade(0, 3, 30),
            dividend(3, 4, 9, COIN),
            rights(2, 4, 9, 5, 1, 2, 0, COIN, 4),
            takeover(1, 2, 5, 9, 6, 1, 1, COIN, 0, 7),
            price(0, 1, 100), price(0, 2, 1000), price(0, 3, 10000),
        ]
        first = 10 * 100 + 20 * 1000 + 30 * 10000
        fourth = first + 30 * COIN + 4 * 1000 - 4 * COIN
        fifth = fourth - 10 * 100 + 7 * 1000 + 3 * COIN
        self.assertEqual(values(told, (3, 4, 5, 8, 9)), [first, fourth, fifth, fifth, fifth])

    def test_a_split_and_a_spin_off(self):
        told = [trade(0, 1, 10), split(1, 4, 6, 3, 4, 8 * COIN), price(0, 1, 100)]
        self.assertEqual(values(told, (3, 4, 5, 6)), [1000, 700 + 4 * COIN, 700 + 4 * COIN, 700 + 4 * COIN])
        told = [trade(0, 1, 10), spinoff(1, 2, 4, 6, 3, 4, 8 * COIN), price(0, 1, 100), price(0, 2, 10)]
        self.assertEqual(values(told, (3, 4, 5, 6)), [1000, 1070 + 4 * COIN, 1070 + 4 * COIN, 1070 + 4 * COIN])

    def test_a_thing_taken_over_is_worth_nothing_though_it_has_a_price(self):
        told = [trade(0, 1, 10), takeover(1, 2, 4, 6, 4, 1, 1), price(0, 1, 100)]
        self.assertEqual(values(told, (3, 4, 6)), [1000, 0, 0])

    def test_the_greatest_numbers_stay_exact(self):
        huge = 10 ** 12
        told = [trade(0, 1, 10 ** 9, huge), split(1, 1, 1, 1000, 1), split(1, 2, 2, 1000, 1)]
        told += [dividend(1, 3, 100000, huge), price(3, 1, huge - 1)]
        self.assertEqual(ask(told, cash(3), due(3), value(3), value(100000)), [
            [0, -huge],
            [1, 100000, 10 ** 21, 0, 0],
            [0, (10 ** 21 - huge) * COIN + 10 ** 15 * (huge - 1)],
            [0, (10 ** 21 - huge) * COIN + 10 ** 15 * (huge - 1)],
        ])

    def test_the_range(self):
        self.assertEqual(rows_of(value(-1), value(100001), value(0), value(100000)), [[-1], [-1], [0, 0], [0, 0]])


if __name__ == "__main__":
    unittest.main()
