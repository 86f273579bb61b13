"""Each call: what it answers, its refusals and their order, and that a refusal changes nothing."""

import unittest

from tests.lines import MANY, begin, choose, dividend, full_of, last_of, rights, spinoff, split, takeover, tell
from tests.lines import today, trade

THIRTY = [dividend(1, day, day) for day in range(30)]


def hundred_trades():
    return [trade(0, 1 + number % 12, 1, number) for number in range(100)]


class BeginTest(unittest.TestCase):
    def test_it_answers_0(self):
        self.assertEqual(tell(begin(), begin()), [0, 0])

    def test_trades_are_counted_anew(self):
        self.assertEqual(tell(trade(0, 1, 5), begin(), trade(0, 1, 5)), [1, 0, 1])

    def test_what_was_held_is_gone(self):
        self.assertEqual(tell(trade(0, 1, 5), begin(), trade(1, 1, -5)), [1, 0, -7])

    def test_actions_are_numbered_anew(self):
        self.assertEqual(tell(split(1, 2, 2, 1, 1), begin(), choose(1, 0), split(1, 2, 2, 1, 1)), [1, 0, -4, 1])

    def test_today_is_0_again(self):
        self.assertEqual(tell(today(9), begin(), today(3)), [0, 0, 0])

    def test_full_is_full_no_more(self):
        self.assertEqual(tell(*hundred_trades(), *THIRTY, begin(), trade(0, 1, 1), THIRTY[0])[-3:], [0, 1, 1])


class TodayTest(unittest.TestCase):
    def test_it_goes_on_or_stays(self):
        self.assertEqual(tell(today(0), today(4), today(4), today(5)), [0, 0, 0, 0])

    def test_it_never_goes_back(self):
        self.assertEqual(tell(today(4), today(3), today(4)), [0, -1, 0])

    def test_a_refused_day_is_not_today(self):
        self.assertEqual(tell(today(4), today(100001), today(3), today(5)), [0, -1, -1, 0])

    def test_trades_and_actions_may_be_told_late_or_ahead(self):
        late = [trade(0, 1, 3), dividend(1, 1, 1), trade(99, 1, 3), dividend(1, 99, 99), rights(1, 2, 2, 2, 1, 1)]
        self.assertEqual(tell(today(50), *late), [0, 1, 1, 2, 2, 3])


class TradeTest(unittest.TestCase):
    def test_it_answers_how_many_there_are(self):
        self.assertEqual(tell(trade(3, 1, 10, 5), trade(3, 1, -4, 5), trade(1, 2, 1)), [1, 2, 3])

    def test_quantity_0(self):
        self.assertEqual(tell(trade(3, 1, 0, 5), trade(3, 1, 1, 5)), [-6, 1])

    def test_range_comes_before_quantity_0(self):
        self.assertEqual(tell(trade(100001, 1, 0), trade(0, 13, 0), trade(0, 1, 0, -1)), [-1, -1, -1])

    def test_the_hundredth_and_the_next(self):
        self.assertEqual(tell(*hundred_trades(), trade(0, 1, 1), trade(0, 1, 1))[-3:], [100, -8, -8])

    def test_quantity_0_comes_before_full(self):
        self.assertEqual(last_of(*hundred_trades(), trade(0, 1, 0)), -6)

    def test_range_comes_before_full(self):
        self.assertEqual(last_of(*hundred_trades(), trade(0, 0, 0)), -1)

    def test_full_comes_before_below_0(self):
        self.assertEqual(last_of(*hundred_trades(), trade(0, 1, -MANY)), -8)

    def test_refused_trades_do_not_count(self):
        refused = [trade(0, 12, -MANY), trade(0, 1, 0), trade(-1, 1, 1)]
        got = tell(*hundred_trades()[:99], *refused, trade(0, 1, 1), trade(0, 1, 1))
        self.assertEqual(got[-5:], [-7, -6, -1, 100, -8])

    def test_trades_do_not_fill_actions_nor_actions_trades(self):
        self.assertEqual(tell(*hundred_trades(), *THIRTY)[-1], 30)
        self.assertEqual(tell(*THIRTY, *hundred_trades())[-1], 100)


# Each kind of action with ex-day and pay-day open; of rights and take-overs the last day is 0.
ACTIONS = {
    "dividend": lambda thing, ex, pay: dividend(thing, ex, pay, 5),
    "split": lambda thing, ex, pay: split(thing, ex, pay, 2, 1, 5),
    "spinoff": lambda thing, ex, pay: spinoff(thing, 12, ex, pay, 2, 1, 5),
    "rights": lambda thing, ex, pay: rights(thing, ex, pay, 0, 2, 1, 5, 5, 5),
    "takeover": lambda thing, ex, pay: takeover(thing, 12, ex, pay, 0, 2, 1, 5, 5, 5),
}


class EveryActionTest(unittest.TestCase):
    def test_actions_are_numbered_whatever_their_kind(self):
        calls = [action(1, number, number) for number, action in enumerate(ACTIONS.values())]
        self.assertEqual(tell(*calls), [1, 2, 3, 4, 5])

    def test_pay_before_ex(self):
        for name, action in ACTIONS.items():
            with self.subTest(name=name):
                self.assertEqual(tell(action(1, 5, 4), action(1, 5, 0), action(1, 5, 5)), [-3, -3, 1])

    def test_range_comes_before_pay_before_ex(self):
        for name, action in ACTIONS.items():
            with self.subTest(name=name):
                self.assertEqual(tell(action(0, 5, 4), action(1, 100001, 4), action(1, 5, -1)), [-1, -1, -1])

    def test_the_thirtieth_and_the_next(self):
        for name, action in ACTIONS.items():
            with self.subTest(name=name):
                got = tell(*THIRTY[:29], action(1, 40, 41), action(2, 40, 41), action(3, 40, 41))
                self.assertEqual(got[-3:], [30, -8, -8])

    def test_pay_before_ex_comes_before_full(self):
        for name, action in ACTIONS.items():
            with self.subTest(name=name):
                self.assertEqual(last_of(*THIRTY, action(1, 5, 4)), -3)

    def test_range_comes_before_full(self):
        for name, action in ACTIONS.items():
            with self.subTest(name=name):
                self.assertEqual(last_of(*THIRTY, action(13, 5, 4)), -1)

    def test_refused_actions_do_not_count(self):
        for name, action in ACTIONS.items():
            with self.subTest(name=name):
                self.assertEqual(tell(*THIRTY[:29], action(13, 5, 5), action(1, 5, 4), action(1, 50, 50))[-1], 30)

    def test_full_comes_before_too_much(self):
        too_much = [split(1, 50, 50, 2, 1), spinoff(2, 1, 50, 50, 1, 1), rights(1, 50, 50, 0, 1, 1, 0, 0, 1)]
        too_much.append(takeover(2, 1, 50, 50, 0, 1, 1, 0, 0, 1))
        # Fewer dividends than THIRTY, as two splits are there already.
        before = full_of(1) + [trade(0, 2, 1)]
        for action in too_much:
            with self.subTest(action=action):
                self.assertEqual(last_of(*before, *THIRTY[:27], action), -7)
                self.assertEqual(last_of(*before, *THIRTY[:28], action), -8)


class SplitOrTakeoverTest(unittest.TestCase):
    def test_one_of_a_thing_and_an_ex_day(self):
        for first in (ACTIONS["split"], ACTIONS["takeover"]):
            for second in (ACTIONS["split"], ACTIONS["takeover"]):
                calls = [first(1, 5, 6), second(1, 5, 7), second(2, 5, 6), second(1, 6, 6), second(1, 4, 6)]
                self.assertEqual(tell(*calls), [1, -5, 2, 3, 4])

    def test_other_kinds_of_the_same_ex_day_are_let_in(self):
        for first in ACTIONS:
            for second in ACTIONS:
                both = {first, second} <= {"split", "takeover"}
                with self.subTest(first=first, second=second):
                    calls = [ACTIONS[first](1, 5, 6), ACTIONS[second](1, 5, 6)]
                    self.assertEqual(tell(*calls), [1, -5 if both else 2])

    def test_the_other_thing_of_a_take_over_may_be_split_that_day(self):
        self.assertEqual(tell(takeover(1, 2, 5, 5, 5, 1, 1), split(2, 5, 5, 2, 1)), [1, 2])
        self.assertEqual(tell(takeover(1, 2, 5, 5, 5, 1, 1), takeover(2, 1, 5, 5, 5, 1, 1)), [1, 2])

    def test_a_refused_split_does_not_stand_in_the_way(self):
        self.assertEqual(tell(split(1, 5, 4, 1, 1), split(1, 5, 5, 1, 1)), [-3, 1])
        self.assertEqual(tell(*full_of(1), split(1, 5, 5, 2, 1), split(1, 5, 5, 1, 2))[-2:], [-7, 3])

    def test_range_and_pay_before_ex_come_before_told_already(self):
        for action in (ACTIONS["split"], ACTIONS["takeover"]):
            calls = [action(1, 5, 5), action(1, 5, 4), action(1, 5, 100001), action(1, 5, 6)]
            self.assertEqual(tell(*calls), [1, -3, -1, -5])

    def test_told_already_comes_before_full(self):
        for action in (ACTIONS["split"], ACTIONS["takeover"]):
            got = tell(action(1, 5, 5), *THIRTY[:29], action(1, 5, 5), action(1, 6, 6))
            self.assertEqual(got[-2:], [-5, -8])

    def test_told_already_comes_before_impossible(self):
        got = tell(*full_of(1), split(1, 2, 2, 2, 1), split(1, 3, 3, 2, 1))
        self.assertEqual(got[-2:], [-5, -7])
        got = tell(*full_of(1), trade(3, 1, -1), takeover(1, 2, 2, 2, 2, 1, 1), takeover(1, 2, 3, 3, 3, 1, 1))
        self.assertEqual(got[-2:], [-5, -7])


class SpinoffTest(unittest.TestCase):
    def test_of_the_same_thing(self):
        self.assertEqual(tell(spinoff(3, 3, 5, 5, 1, 1), spinoff(3, 4, 5, 5, 1, 1)), [-6, 1])

    def test_order(self):
        self.assertEqual(last_of(spinoff(3, 3, 5, 5, 0, 1)), -1)
        self.assertEqual(last_of(spinoff(13, 13, 5, 5, 1, 1)), -1)
        self.assertEqual(last_of(spinoff(3, 3, 5, 4, 1, 1)), -6)
        self.assertEqual(last_of(*THIRTY, spinoff(3, 3, 5, 5, 1, 1)), -6)


class RightsTest(unittest.TestCase):
    def test_pay_before_last(self):
        self.assertEqual(tell(rights(1, 2, 5, 6, 1, 1), rights(1, 2, 5, 5, 1, 1)), [-3, 1])

    def test_last_may_be_before_ex(self):
        self.assertEqual(tell(rights(1, 5, 5, 0, 1, 1)), [1])

    def test_order(self):
        self.assertEqual(last_of(rights(1, 2, 5, 6, 1, 1001)), -1)
        self.assertEqual(last_of(*THIRTY, rights(1, 2, 5, 6, 1, 1)), -3)
        self.assertEqual(last_of(*full_of(1), rights(1, 3, 5, 6, 1, 1, 0, 0, 1)), -3)

    def test_two_of_one_ex_day(self):
        self.assertEqual(tell(rights(1, 2, 5, 5, 1, 1), rights(1, 2, 5, 5, 1, 1)), [1, 2])


class TakeoverTest(unittest.TestCase):
    def test_by_the_same_thing(self):
        self.assertEqual(tell(takeover(3, 3, 5, 5, 5, 1, 1), takeover(3, 4, 5, 5, 5, 1, 1)), [-6, 1])

    def test_pay_before_last(self):
        self.assertEqual(tell(takeover(1, 2, 2, 5, 6, 1, 1), takeover(1, 2, 2, 5, 5, 1, 1)), [-3, 1])

    def test_order(self):
        told = takeover(1, 2, 5, 9, 9, 1, 1)
        self.assertEqual(last_of(takeover(3, 3, 5, 4, 6, 1, 1, 0, 0, -1)), -1)
        self.assertEqual(last_of(takeover(3, 3, 5, 4, 6, 1, 1)), -6)
        self.assertEqual(last_of(told, takeover(1, 2, 5, 9, 10, 1, 1)), -3)
        self.assertEqual(last_of(told, takeover(1, 1, 5, 9, 9, 1, 1)), -6)
        self.assertEqual(last_of(*THIRTY, takeover(3, 3, 5, 5, 5, 1, 1)), -6)
        self.assertEqual(last_of(*THIRTY, takeover(1, 2, 5, 5, 6, 1, 1)), -3)


class ChooseTest(unittest.TestCase):
    def test_it_answers_the_choice_before(self):
        told = [rights(1, 2, 5, 5, 1, 1, 0, 0, 4), takeover(1, 2, 2, 5, 5, 1, 1, 0, 0, 6)]
        more = [choose(1, 7), choose(1, 0), choose(2, 10 ** 12), choose(2, 1), choose(1, 9)]
        self.assertEqual(tell(*told, *more)[2:], [4, 7, 6, 10 ** 12, 0])

    def test_the_choice_is_answered_as_it_was_told_though_less_can_be_used(self):
        self.assertEqual(tell(rights(1, 2, 5, 5, 1, 1, 0, 0, 99), choose(1, 0))[1], 99)

    def test_it_is_not_there(self):
        self.assertEqual(tell(choose(1, 0), rights(1, 2, 5, 5, 1, 1), choose(2, 0), choose(1, 0)), [-4, 1, -4, 0])

    def test_it_has_no_choice(self):
        told = [dividend(1, 2, 5), split(1, 2, 5, 1, 1), spinoff(1, 2, 2, 5, 1, 1)]
        self.assertEqual(tell(*told, choose(1, 0), choose(2, 0), choose(3, 0))[3:], [-6, -6, -6])

    def test_too_late(self):
        for told in (rights(1, 2, 9, 5, 1, 1, 0, 0, 3), takeover(1, 2, 2, 9, 5, 1, 1, 0, 0, 3)):
            got = tell(told, today(5), choose(1, 8), today(6), choose(1, 9), choose(1, 9))
            self.assertEqual(got, [1, 0, 3, 0, -9, -9])

    def test_it_may_be_before_the_ex_day(self):
        self.assertEqual(tell(rights(1, 5, 5, 3, 1, 1, 0, 0, 3), today(3), choose(1, 8))[-1], 3)

    def test_order(self):
        split_told = [split(1, 2, 5, 1, 1), today(9)]
        self.assertEqual(last_of(*split_told, choose(1, -1)), -1)
        self.assertEqual(last_of(*split_told, choose(2, -1)), -1)
        self.assertEqual(last_of(*split_told, choose(0, 5)), -1)
        self.assertEqual(last_of(*split_told, choose(2, 5)), -4)
        # A split has no last day; were it 0, it would be too late.
        self.assertEqual(last_of(*split_told, choose(1, 5)), -6)
        full = full_of(1) + [rights(1, 3, 5, 4, 1, 1)]
        self.assertEqual(last_of(*full, today(4), choose(3, 1)), -7)
        self.assertEqual(last_of(*full, today(5), choose(3, 1)), -9)

    def test_a_refusal_leaves_the_choice(self):
        full = full_of(1) + [trade(4, 1, -7), rights(1, 3, 5, 4, 1, 1, 0, 0, 2)]
        self.assertEqual(tell(*full, choose(3, 8), choose(3, -1), choose(3, 7), choose(3, 0))[-4:], [-7, -1, 2, 7])

    def test_it_does_not_make_an_action_more(self):
        full = THIRTY[:29] + [rights(1, 2, 5, 5, 1, 1, 0, 0, 2)]
        self.assertEqual(tell(*full, choose(30, 1), choose(31, 1))[-2:], [2, -4])


if __name__ == "__main__":
    unittest.main()
