"""-7: a quantity below 0, or above 10 ** 15, on some evening, by whatever is told."""

import unittest

from tests.lines import MANY, MOST_HELD, book, choose, dividend, full_of, last_of, rights, spinoff, split
from tests.lines import takeover, tell, today, trade


class TradeTest(unittest.TestCase):
    def test_below_0(self):
        self.assertEqual(tell(trade(3, 1, -1)), [-7])
        self.assertEqual(tell(trade(3, 1, 5), trade(3, 1, -6), trade(3, 1, -5), trade(3, 1, -1)), [1, -7, 2, -7])

    def test_of_another_thing(self):
        self.assertEqual(tell(trade(3, 1, 5), trade(3, 2, -5)), [1, -7])

    def test_sold_before_it_is_bought(self):
        self.assertEqual(tell(trade(3, 1, 5), trade(2, 1, -5), trade(4, 1, -5)), [1, -7, 2])

    def test_only_the_evening_counts(self):
        # After the last one, day 4 begins with 0 held, and its sale was told before its purchase.
        self.assertEqual(tell(trade(3, 1, 5), trade(4, 1, -5), trade(4, 1, 5), trade(3, 1, -5)), [1, 2, 3, 4])

    def test_told_late_it_hits_a_later_evening_only(self):
        calls = [trade(1, 1, 5), trade(9, 1, -5)]
        self.assertEqual(tell(*calls, trade(3, 1, -1), trade(9, 1, -1), trade(2, 1, 1), trade(3, 1, -1))[2:],
                         [-7, -7, 3, 4])

    def test_told_late_it_hits_a_later_evening_through_a_split(self):
        calls = [trade(1, 1, 10), split(1, 5, 5, 1, 2), trade(9, 1, -5)]
        self.assertEqual(tell(*calls, trade(3, 1, -1), trade(5, 1, -1), trade(6, 1, 1), trade(5, 1, -1))[3:],
                         [-7, -7, 3, 4])

    def test_told_late_it_hits_another_thing_later(self):
        spun = [trade(1, 1, 10), spinoff(1, 2, 5, 5, 1, 1), trade(9, 2, -10)]
        self.assertEqual(tell(*spun, trade(4, 1, -1), trade(5, 1, -1))[3:], [-7, 3])
        taken = [trade(1, 1, 10), takeover(1, 2, 5, 7, 6, 1, 1, 0, 0, 10), trade(9, 2, -10)]
        self.assertEqual(tell(*taken, trade(4, 1, -1), trade(5, 1, -1), trade(5, 1, 1), trade(5, 1, -1))[3:],
                         [-7, -7, 3, 4])

    def test_what_comes_in_on_the_day_may_be_sold(self):
        calls = [trade(1, 1, 10), rights(1, 2, 5, 4, 1, 1, 0, 0, 10)]
        self.assertEqual(tell(*calls, trade(4, 1, -11), trade(5, 1, -20))[2:], [-7, 2])

    def test_too_much(self):
        self.assertEqual(tell(*full_of(1), trade(3, 1, 1), trade(3, 1, -1), trade(4, 1, 1), trade(4, 1, 1))[3:],
                         [-7, 2, 3, -7])
        self.assertEqual(book(full_of(1), 2).quantities[1], MOST_HELD)

    def test_too_much_on_a_later_evening_only(self):
        self.assertEqual(tell(*full_of(1), trade(0, 1, 1), trade(1, 1, 1), trade(2, 1, 1))[3:], [-7, -7, -7])
        self.assertEqual(tell(*full_of(1), trade(2, 1, -1), trade(2, 1, 1), trade(2, 1, 1))[3:], [2, 3, -7])

    def test_too_much_on_one_evening_though_sold_later(self):
        calls = full_of(1) + [trade(5, 1, -5)]
        self.assertEqual(tell(*calls, trade(4, 1, 1), trade(5, 1, 1))[4:], [-7, 3])

    def test_too_much_of_the_last_thing(self):
        self.assertEqual(last_of(*full_of(12), trade(100000, 12, 1)), -7)

    def test_a_refused_trade_is_not_held(self):
        self.assertEqual(tell(trade(1, 1, 5), trade(1, 1, -6), trade(2, 1, -5), trade(2, 1, -1)), [1, -7, 2, -7])


class DividendTest(unittest.TestCase):
    def test_it_changes_no_quantity_and_so_is_never_refused_for_one(self):
        calls = full_of(1) + [dividend(1, 3, 3, 10 ** 12), trade(3, 1, -1), dividend(1, 0, 100000, 10 ** 12)]
        self.assertEqual(tell(*calls), [1, 1, 2, 3, 2, 4])


class SplitTest(unittest.TestCase):
    def test_below_0_on_a_later_evening(self):
        sold = [trade(1, 1, 10), trade(9, 1, -6)]
        self.assertEqual(tell(*sold, split(1, 5, 5, 1, 2), split(1, 5, 5, 3, 5))[2:], [-7, 1])

    def test_below_0_on_the_ex_day(self):
        sold = [trade(1, 1, 10), trade(5, 1, -6)]
        self.assertEqual(tell(*sold, split(1, 5, 5, 1, 2), split(1, 6, 6, 1, 2))[2:], [-7, 1])

    def test_too_much_on_the_ex_day(self):
        self.assertEqual(tell(*full_of(1), split(1, 3, 3, 1000, 999), split(1, 3, 3, 1, 1))[3:], [-7, 3])

    def test_the_greatest_and_one_more(self):
        calls = full_of(1) + [trade(2, 1, -1)]
        self.assertEqual(tell(*calls, split(1, 3, 3, 1, 1), trade(3, 1, 1), trade(3, 1, 1))[4:], [3, 3, -7])

    def test_too_much_on_a_later_evening_only(self):
        self.assertEqual(tell(*full_of(1), split(1, 0, 0, 2, 1), split(1, 3, 4, 1, 2))[3:], [3, 4])
        late = [trade(0, 1, MANY), split(1, 5, 5, 1000, 1), split(1, 9, 9, 1000, 1)]
        self.assertEqual(tell(*late, split(1, 3, 3, 2, 1), split(1, 7, 7, 2, 1), split(1, 3, 3, 1, 2))[3:],
                         [-7, -7, 3])

    def test_too_much_within_the_day_but_not_in_the_evening(self):
        calls = full_of(1) + [trade(3, 1, -MANY), split(1, 3, 3, 1000, 1)]
        self.assertEqual(last_of(*calls), -7)
        near = [trade(0, 1, MANY), trade(0, 1, 1), split(1, 1, 1, 1000, 1), trade(2, 1, -1000000)]
        # On day 2 there are 1000 above the most, and a million are sold the same day.
        self.assertEqual(last_of(*near, split(1, 2, 2, 1000, 1)), 2)


class SpinoffTest(unittest.TestCase):
    def test_too_much_of_the_other_thing(self):
        calls = full_of(1) + [trade(2, 2, 1)]
        self.assertEqual(tell(*calls, spinoff(2, 1, 3, 3, 1, 1), spinoff(2, 1, 3, 3, 1, 2))[4:], [-7, 3])

    def test_too_much_on_a_later_evening_only(self):
        calls = full_of(1) + [trade(0, 2, 1)]
        self.assertEqual(tell(*calls, spinoff(2, 1, 1, 1, 1, 1), spinoff(2, 1, 0, 0, 1, 1))[4:], [-7, 3])

    def test_too_much_by_itself(self):
        calls = full_of(1)
        self.assertEqual(tell(*calls, spinoff(1, 2, 3, 3, 1000, 1), spinoff(1, 2, 3, 3, 1, 1))[3:], [-7, 3])

    def test_what_is_spun_off_makes_a_sale_possible(self):
        calls = [trade(1, 1, 10), trade(5, 2, -3)]
        self.assertEqual(tell(*calls, spinoff(1, 2, 5, 9, 1, 3), trade(5, 2, -3), trade(5, 2, -1)), [1, -7, 1, 2, -7])


class RightsTest(unittest.TestCase):
    def test_too_much_on_the_pay_day(self):
        told = [rights(1, 3, 7, 5, 1, 1, 0, 0, 1), rights(1, 3, 7, 5, 1, 1, 0, 0, 0)]
        self.assertEqual(tell(*full_of(1), *told)[3:], [-7, 3])

    def test_room_on_the_pay_day_is_enough(self):
        calls = full_of(1) + [trade(7, 1, -1)]
        self.assertEqual(tell(*calls, rights(1, 3, 6, 5, 1, 1, 0, 0, 1), rights(1, 3, 7, 5, 1, 1, 0, 0, 1))[4:],
                         [-7, 3])

    def test_too_much_on_a_later_evening_only(self):
        calls = full_of(1) + [trade(0, 1, -1)]
        later = rights(1, 1, 1, 1, 1, 1, 0, 0, 1000)
        self.assertEqual(tell(*calls, later)[3:], [2, 3])
        self.assertEqual(tell(*calls, rights(1, 1, 1, 1, 1, 1, 0, 0, 1001))[3:], [2, -7])

    def test_none_below_0(self):
        calls = [trade(1, 1, 10), trade(9, 1, -10)]
        self.assertEqual(tell(*calls, rights(1, 3, 7, 5, 1, 1, 0, 10 ** 12, 10), trade(9, 1, -11), trade(9, 1, -10)),
                         [1, 2, 1, -7, 3])


class TakeoverTest(unittest.TestCase):
    def test_below_0_on_a_later_evening(self):
        sold = [trade(1, 1, 10), trade(9, 1, -1)]
        told = [takeover(1, 2, 5, 7, 6, 1, 1, 0, 0, 0), takeover(1, 2, 10, 11, 10, 1, 1, 0, 0, 0)]
        self.assertEqual(tell(*sold, *told)[2:], [-7, 1])

    def test_below_0_on_the_ex_day(self):
        sold = [trade(1, 1, 10), trade(5, 1, -1)]
        self.assertEqual(tell(*sold, takeover(1, 2, 5, 7, 6, 1, 1), takeover(1, 2, 6, 7, 6, 1, 1))[2:], [-7, 1])

    def test_below_0_of_another_thing_that_hangs_on_it(self):
        calls = [trade(1, 1, 10), spinoff(1, 3, 6, 6, 1, 1), trade(9, 3, -1)]
        self.assertEqual(tell(*calls, takeover(1, 2, 5, 7, 6, 1, 1), takeover(1, 2, 6, 7, 6, 1, 1))[3:], [-7, 2])

    def test_too_much_of_the_other_thing_on_the_pay_day(self):
        calls = full_of(1) + [trade(2, 2, 5)]
        told = [takeover(2, 1, 3, 9, 8, 1, 5, 0, 0, 5), takeover(2, 1, 3, 9, 8, 1, 5, 0, 0, 4)]
        self.assertEqual(tell(*calls, *told)[4:], [-7, 3])

    def test_the_greatest_is_let_in(self):
        calls = full_of(1) + [takeover(1, 2, 3, 4, 4, 1000, 1, 0, 0, 10 ** 12)]
        self.assertEqual(tell(*calls, trade(4, 2, 1), trade(4, 2, -1))[3:], [3, -7, 2])

    def test_too_much_on_a_later_evening_only(self):
        calls = full_of(1) + [trade(0, 2, 1)]
        told = [takeover(2, 1, 1, 1, 1, 1, 1, 0, 0, 1), takeover(2, 1, 1, 1, 1, 1, 1, 0, 0, 0)]
        self.assertEqual(tell(*calls, *told)[4:], [-7, 3])

    def test_chains_of_take_overs(self):
        calls = [trade(1, 1, 10), takeover(1, 2, 2, 4, 4, 3, 1, 0, 0, 10), takeover(2, 3, 5, 5, 5, 1, 2, 0, 0, 99)]
        self.assertEqual(tell(*calls, trade(5, 3, -16), trade(5, 3, -15))[3:], [-7, 2])


class ChooseTest(unittest.TestCase):
    def test_below_0_by_a_lesser_choice_of_rights(self):
        calls = [trade(1, 1, 10), rights(1, 2, 5, 4, 1, 1, 0, 0, 10), trade(9, 1, -18)]
        self.assertEqual(tell(*calls, choose(1, 7), choose(1, 8), choose(1, 10))[3:], [-7, 10, 8])

    def test_below_0_by_a_lesser_choice_of_a_take_over(self):
        calls = [trade(1, 1, 10), takeover(1, 2, 2, 5, 4, 1, 2, 0, 0, 10), trade(5, 2, -3)]
        self.assertEqual(tell(*calls, choose(1, 5), choose(1, 6), choose(1, 0))[3:], [-7, 10, -7])

    def test_too_much_by_rights(self):
        calls = full_of(1) + [trade(3, 1, -2), rights(1, 3, 5, 4, 1, 1)]
        self.assertEqual(tell(*calls, choose(3, 3), choose(3, 2), choose(3, 10 ** 12), choose(3, 1))[5:],
                         [-7, 0, -7, 2])

    def test_too_much_by_a_take_over(self):
        calls = full_of(1) + [trade(2, 2, 10), trade(3, 1, -2), takeover(2, 1, 3, 5, 4, 1, 2)]
        self.assertEqual(tell(*calls, choose(3, 6), choose(3, 5), choose(3, 10 ** 12))[6:], [-7, 0, -7])

    def test_a_choice_above_what_there_is_does_nothing_more(self):
        calls = [trade(1, 1, 10), rights(1, 2, 5, 4, 1, 1), trade(9, 1, -10)]
        self.assertEqual(tell(*calls, choose(1, 10 ** 12), trade(9, 1, -11), trade(9, 1, -10))[3:], [0, -7, 3])

    def test_too_much_on_a_later_evening_only(self):
        calls = [trade(0, 1, MANY), trade(0, 1, -1), rights(1, 1, 1, 9, 1, 1)]
        self.assertEqual(tell(*calls)[-1], -3)
        calls[2] = rights(1, 1, 2, 2, 1, 1)
        calls += [split(1, 3, 3, 1000, 1), split(1, 4, 4, 1000, 1)]
        self.assertEqual(tell(*calls, choose(1, 2), choose(1, 1))[5:], [-7, 0])

    def test_told_late_but_in_time(self):
        calls = [trade(1, 1, 10), rights(1, 2, 5, 4, 1, 1, 0, 0, 10), trade(9, 1, -18), today(4)]
        self.assertEqual(tell(*calls, choose(1, 7), choose(1, 8), today(5), choose(1, 7))[4:], [-7, 10, 0, -9])


class OneDayTest(unittest.TestCase):
    def test_several_actions_of_one_ex_day_on_one_thing(self):
        calls = [
            trade(2, 1, 10),
            split(1, 3, 3, 2, 1),
            spinoff(1, 2, 3, 3, 1, 1),
            rights(1, 3, 3, 3, 1, 1, 0, 0, 99),
            dividend(1, 3, 3, 1000000),
        ]
        self.assertEqual(tell(*calls, trade(3, 1, -31), trade(3, 1, -30))[5:], [-7, 2])
        self.assertEqual(tell(*calls, trade(3, 2, -11), trade(3, 2, -10))[5:], [-7, 2])

    def test_a_take_over_and_rights_of_one_ex_day(self):
        calls = [trade(2, 1, 10), takeover(1, 2, 3, 3, 3, 1, 1, 0, 0, 99), rights(1, 3, 3, 3, 1, 1, 0, 0, 99)]
        self.assertEqual(tell(*calls, trade(3, 1, -11), trade(3, 1, -10), trade(3, 2, -11), trade(3, 2, -10))[3:],
                         [-7, 2, -7, 3])

    def test_things_that_change_places(self):
        calls = [
            trade(2, 1, 10),
            trade(2, 2, 3),
            takeover(1, 2, 3, 3, 3, 1, 1, 0, 0, 99),
            takeover(2, 1, 3, 3, 3, 1, 1, 0, 0, 99),
        ]
        self.assertEqual(tell(*calls, trade(3, 1, -4), trade(3, 1, -3), trade(3, 2, -11), trade(3, 2, -10))[4:],
                         [-7, 3, -7, 4])

    def test_a_trade_on_the_ex_day_is_not_in_q(self):
        calls = [trade(3, 1, 10), split(1, 3, 3, 2, 1), spinoff(1, 2, 3, 3, 1, 1)]
        self.assertEqual(tell(*calls, trade(3, 2, -1), trade(3, 1, -11), trade(3, 1, -10))[3:], [-7, -7, 2])

    def test_a_pay_day_that_is_the_ex_day_of_the_next(self):
        calls = [trade(1, 1, 10), rights(1, 2, 5, 4, 1, 1, 0, 0, 10), split(1, 5, 5, 2, 1)]
        # The 10 that come in on day 5 are not split.
        self.assertEqual(tell(*calls, trade(5, 1, -31), trade(5, 1, -30))[3:], [-7, 2])


if __name__ == "__main__":
    unittest.main()
