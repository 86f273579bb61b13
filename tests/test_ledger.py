"""The books of the evenings: days in order, and on each actions, what is due, trades."""

import unittest

from tests.lines import book, dividend, dues, rights, spinoff, split, takeover, trade


def held(calls, evening, thing):
    return book(calls, evening).quantities[thing]


class EveningTest(unittest.TestCase):
    def test_before_anything_is_told(self):
        empty = book([], 100000)
        self.assertEqual((empty.quantities, empty.cash, empty.dues), ([0] * 13, 0, []))

    def test_trades(self):
        calls = [trade(4, 1, 10, 300), trade(6, 1, -4, 200), trade(6, 12, 3, 1)]
        self.assertEqual([held(calls, day, 1) for day in (3, 4, 5, 6, 100000)], [0, 10, 10, 6, 6])
        self.assertEqual([book(calls, day).cash for day in (3, 4, 5, 6)], [0, -300, -300, -101])
        self.assertEqual(held(calls, 6, 12), 3)

    def test_one_bought_is_paid_and_one_sold_is_received(self):
        calls = [trade(1, 1, 1, 40), trade(2, 1, -1, 50)]
        self.assertEqual([book(calls, day).cash for day in (1, 2)], [-40, 10])

    def test_first_and_last_day(self):
        calls = [trade(0, 1, 10, 3), trade(100000, 1, 5, 4)]
        self.assertEqual([held(calls, day, 1) for day in (0, 99999, 100000)], [10, 10, 15])

    def test_told_late_is_as_told_in_time(self):
        in_time = [trade(1, 1, 10, 5), dividend(1, 3, 5, 1000000), split(1, 4, 4, 2, 1), trade(6, 1, -20, 9)]
        late = [in_time[0], in_time[2], in_time[3], in_time[1]]
        for day in range(8):
            self.assertEqual(book(in_time, day).quantities, book(late, day).quantities)
            self.assertEqual(book(in_time, day).cash, book(late, day).cash)


class ExDayTest(unittest.TestCase):
    def test_q_is_of_the_evening_before(self):
        calls = [trade(2, 1, 10), trade(3, 1, 7), dividend(1, 3, 5, 1000000)]
        self.assertEqual(dues(calls, 3), [(5, 10, 0, 0)])

    def test_before_day_0_nothing_is_held(self):
        calls = [trade(0, 1, 10), split(1, 0, 0, 2, 1), dividend(1, 0, 0, 1000000)]
        self.assertEqual((held(calls, 0, 1), book(calls, 0).cash), (10, 0))

    def test_a_trade_on_the_ex_day_comes_behind_the_split(self):
        calls = [trade(2, 1, 10), trade(3, 1, -20), split(1, 3, 3, 2, 1)]
        self.assertEqual(held(calls, 3, 1), 0)
        calls = [trade(2, 1, 10), trade(3, 1, 7), split(1, 3, 3, 2, 1)]
        self.assertEqual(held(calls, 3, 1), 27)

    def test_what_is_bought_on_the_ex_day_of_a_take_over_stays(self):
        calls = [trade(2, 1, 10), trade(3, 1, 7), takeover(1, 2, 3, 4, 3, 1, 1, 1000000, 0, 0)]
        self.assertEqual((held(calls, 3, 1), dues(calls, 3)), (7, [(4, 10, 2, 0)]))

    def test_several_actions_of_one_ex_day_see_the_same_q(self):
        calls = [
            trade(2, 1, 10),
            split(1, 3, 5, 2, 1),
            dividend(1, 3, 6, 1000000),
            spinoff(1, 2, 3, 4, 1, 3, 3000000),
            rights(1, 3, 7, 5, 1, 2, 2000000, 1000000, 2),
        ]
        self.assertEqual((held(calls, 3, 1), held(calls, 3, 2)), (20, 3))
        self.assertEqual(dues(calls, 3), [(5, 0, 0, 0), (6, 10, 0, 0), (4, 1, 0, 0), (7, 4, 1, 2)])
        turned = [calls[0]] + calls[:0:-1]
        self.assertEqual((held(turned, 3, 1), held(turned, 3, 2)), (20, 3))
        self.assertEqual(dues(turned, 3), [(7, 4, 1, 2), (4, 1, 0, 0), (6, 10, 0, 0), (5, 0, 0, 0)])

    def test_a_take_over_and_a_dividend_of_one_ex_day(self):
        calls = [trade(2, 1, 10), takeover(1, 2, 3, 5, 3, 1, 1, 0, 0, 10), dividend(1, 3, 4, 2000000)]
        self.assertEqual(held(calls, 3, 1), 0)
        self.assertEqual(dues(calls, 3), [(5, 0, 2, 10), (4, 20, 0, 0)])

    def test_what_is_spun_off_on_the_ex_day_is_not_in_q_of_that_day(self):
        calls = [trade(2, 1, 10), trade(2, 2, 4), spinoff(1, 2, 3, 3, 1, 1), split(2, 3, 3, 3, 1)]
        self.assertEqual(held(calls, 3, 2), 12 + 10)
        calls = [trade(2, 1, 10), trade(2, 2, 4), split(2, 3, 3, 3, 1), spinoff(1, 2, 3, 3, 1, 1)]
        self.assertEqual(held(calls, 3, 2), 12 + 10)

    def test_two_spin_offs_of_one_thing_on_one_day(self):
        calls = [trade(2, 1, 10), spinoff(1, 2, 3, 3, 1, 2), spinoff(1, 2, 3, 3, 1, 5)]
        self.assertEqual(held(calls, 3, 2), 7)

    def test_what_is_still_due_is_not_held(self):
        calls = [trade(1, 1, 10), rights(1, 2, 5, 4, 1, 1, 0, 0, 10), dividend(1, 5, 6, 1000000)]
        self.assertEqual([held(calls, day, 1) for day in (2, 4, 5)], [10, 10, 20])
        self.assertEqual(dues(calls, 5), [(6, 10, 0, 0)])


class DueTest(unittest.TestCase):
    def test_it_is_due_from_the_ex_day_to_the_evening_before_the_pay_day(self):
        calls = [trade(1, 1, 10), dividend(1, 3, 5, 3000000)]
        self.assertEqual([dues(calls, day) for day in (2, 3, 4, 5)], [[], [(5, 30, 0, 0)], [(5, 30, 0, 0)], []])
        self.assertEqual([book(calls, day).cash for day in (2, 3, 4, 5, 6)], [0, 0, 0, 30, 30])

    def test_a_pay_day_that_is_the_ex_day(self):
        calls = [trade(1, 1, 10), dividend(1, 3, 3, 3000000), rights(1, 3, 3, 3, 1, 1, 0, 2000000, 4)]
        self.assertEqual((dues(calls, 3), book(calls, 3).cash, held(calls, 3, 1)), ([], 22, 14))

    def test_what_comes_in_may_be_sold_the_same_day(self):
        calls = [trade(1, 1, 10), takeover(1, 2, 3, 5, 4, 1, 1, 0, 0, 10), trade(5, 2, -10, 7)]
        self.assertEqual((held(calls, 5, 2), book(calls, 5).cash), (0, 7))

    def test_longer_due_comes_first_then_the_number(self):
        calls = [
            trade(0, 1, 1),
            trade(0, 2, 1),
            dividend(1, 4, 9, 4000000),
            dividend(2, 3, 9, 3000000),
            dividend(1, 3, 8, 1000000),
            dividend(2, 4, 7, 2000000),
        ]
        self.assertEqual(dues(calls, 4), [(9, 3, 0, 0), (8, 1, 0, 0), (9, 4, 0, 0), (7, 2, 0, 0)])
        self.assertEqual(dues(calls, 7), [(9, 3, 0, 0), (8, 1, 0, 0), (9, 4, 0, 0)])
        self.assertEqual((dues(calls, 9), book(calls, 9).cash), ([], 10))

    def test_it_is_due_with_nothing_in_it_too(self):
        calls = [dividend(1, 3, 5, 9), rights(2, 3, 5, 3, 1, 1), takeover(3, 4, 3, 5, 3, 1, 1)]
        self.assertEqual(dues(calls, 4), [(5, 0, 0, 0), (5, 0, 2, 0), (5, 0, 4, 0)])

    def test_cash_may_come_below_0(self):
        calls = [trade(1, 1, 10), rights(1, 3, 5, 4, 1, 1, 0, 2000000, 10)]
        self.assertEqual([book(calls, day).cash for day in (4, 5)], [0, -20])


if __name__ == "__main__":
    unittest.main()
