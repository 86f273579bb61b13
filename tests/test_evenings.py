"""Each kind of action as it is seen through the calls, evening by evening, and what is told late."""

import itertools
import unittest

from tests.lines import action, all_questions, ask, cash, choose, dividend, due, entitled, position, positions, price
from tests.lines import rights, rows_of, spinoff, split, takeover, today, trade, value

COIN = 10 ** 6

# 11 of thing 1 bought for 100 coins; prices of 10, 20 and 30 coins of the things 1, 2 and 3.
HELD = [trade(0, 1, 11, 100), price(0, 1, 10 * COIN), price(0, 2, 20 * COIN), price(0, 3, 30 * COIN)]


def evening(told, day):
    """The quantities of the things 1, 2 and 3, the cash, what is due, and the value in coins."""
    rows = ask(told, position(day, 1), position(day, 2), position(day, 3), cash(day), due(day), value(day))
    coins, rest = divmod(rows[5][1], COIN)
    assert rest == 0, rows
    return [rows[0][0], rows[1][0], rows[2][0], rows[3][1], rows[4], coins]


class KindTest(unittest.TestCase):
    """An action with ex-day 3 and pay-day 6, then the same one with ex-day and pay-day 3."""

    def see(self, told, before, waiting, paid):
        self.assertEqual(evening(told, 2), before)
        for day in (3, 4, 5):
            self.assertEqual(evening(told, day), waiting)
        for day in (6, 7, 100000):
            self.assertEqual(evening(told, day), paid)

    def see_at_once(self, told, before, paid):
        self.assertEqual(evening(told, 2), before)
        for day in (3, 4, 100000):
            self.assertEqual(evening(told, day), paid)

    BEFORE = [11, 0, 0, -100, [0], 10]

    def test_dividend(self):
        paid = [11, 0, 0, -84, [0], 26]
        told = HELD + [dividend(1, 3, 6, 1500000)]
        self.see(told, self.BEFORE, [11, 0, 0, -100, [1, 6, 16, 0, 0], 26], paid)
        self.assertEqual(ask(told, entitled(1), action(1)),
                         [[11, 0, 0, 6, 16, 0, 0], [1, 1, 0, 3, 6, 0, 1, 1, 1500000, 0, 0]])
        self.see_at_once(HELD + [dividend(1, 3, 3, 1500000)], self.BEFORE, paid)

    def test_split_into_more(self):
        # 33 halves: 16, and half of 5 coins.
        paid = [16, 0, 0, -98, [0], 62]
        told = HELD + [split(1, 3, 6, 3, 2, 5 * COIN)]
        self.see(told, self.BEFORE, [16, 0, 0, -100, [1, 6, 2, 0, 0], 62], paid)
        self.assertEqual(ask(told, entitled(1), action(1)),
                         [[11, 5, 0, 6, 2, 0, 0], [2, 1, 0, 3, 6, 0, 3, 2, 5 * COIN, 0, 0]])
        self.see_at_once(HELD + [split(1, 3, 3, 3, 2, 5 * COIN)], self.BEFORE, paid)

    def test_split_into_fewer(self):
        # 11 quarters: 2, and 3 quarters of 41 coins.
        paid = [2, 0, 0, -70, [0], -50]
        told = HELD + [split(1, 3, 6, 1, 4, 41 * COIN)]
        self.see(told, self.BEFORE, [2, 0, 0, -100, [1, 6, 30, 0, 0], -50], paid)
        self.assertEqual(ask(told, entitled(1)), [[11, -9, 0, 6, 30, 0, 0]])
        self.see_at_once(HELD + [split(1, 3, 3, 1, 4, 41 * COIN)], self.BEFORE, paid)

    def test_spinoff(self):
        # 33 fifths: 6, and 3 fifths of 19 coins.
        paid = [11, 6, 0, -89, [0], 141]
        told = HELD + [spinoff(1, 2, 3, 6, 3, 5, 19 * COIN)]
        self.see(told, self.BEFORE, [11, 6, 0, -100, [1, 6, 11, 0, 0], 141], paid)
        self.assertEqual(ask(told, entitled(1), action(1)),
                         [[11, 0, 6, 6, 11, 0, 0], [3, 1, 2, 3, 6, 0, 3, 5, 19 * COIN, 0, 0]])
        self.see_at_once(HELD + [spinoff(1, 2, 3, 3, 3, 5, 19 * COIN)], self.BEFORE, paid)

    def test_rights_none_used(self):
        # 5 rights at 2.5 coins.
        paid = [11, 0, 0, -88, [0], 22]
        told = HELD + [rights(1, 3, 6, 4, 1, 2, 2500000, 7100000, 0)]
        self.see(told, self.BEFORE, [11, 0, 0, -100, [1, 6, 12, 1, 0], 22], paid)
        self.assertEqual(ask(told, entitled(1), action(1)),
                         [[11, 0, 0, 6, 12, 1, 0], [4, 1, 0, 3, 6, 4, 1, 2, 2500000, 7100000, 0]])
        self.see_at_once(HELD + [rights(1, 3, 3, 3, 1, 2, 2500000, 7100000, 0)], self.BEFORE, paid)

    def test_rights_some_used(self):
        # 3 sold at 2.5 coins: 7; 2 used at 7.1: 14.2, so 15 are paid.
        paid = [13, 0, 0, -108, [0], 22]
        told = HELD + [rights(1, 3, 6, 4, 1, 2, 2500000, 7100000, 2)]
        self.see(told, self.BEFORE, [11, 0, 0, -100, [1, 6, -8, 1, 2], 22], paid)
        self.assertEqual(ask(told, entitled(1)), [[11, 0, 0, 6, -8, 1, 2]])
        self.see_at_once(HELD + [rights(1, 3, 3, 3, 1, 2, 2500000, 7100000, 2)], self.BEFORE, paid)

    def test_rights_with_a_choice_above_what_there_is(self):
        # 5 at 7.1 coins: 35.5, so 36 are paid.
        paid = [16, 0, 0, -136, [0], 24]
        told = HELD + [rights(1, 3, 6, 4, 1, 2, 2500000, 7100000, 6)]
        self.see(told, self.BEFORE, [11, 0, 0, -100, [1, 6, -36, 1, 5], 24], paid)
        self.assertEqual(ask(told, entitled(1), action(1)),
                         [[11, 0, 0, 6, -36, 1, 5], [4, 1, 0, 3, 6, 4, 1, 2, 2500000, 7100000, 6]])
        for choice in (5, 6, 10 ** 12):
            told = HELD + [rights(1, 3, 3, 3, 1, 2, 2500000, 7100000, choice)]
            self.see_at_once(told, self.BEFORE, paid)

    def test_cash_falls_below_0_by_rights_alone(self):
        told = [trade(0, 1, 11), rights(1, 3, 6, 4, 1, 2, 0, COIN, 5)]
        self.assertEqual(ask(told, cash(5), cash(6)), [[0, 0], [0, -5]])
        self.assertEqual(ask(told, value(2), value(3), value(6)), [[0, 0], [0, -5 * COIN], [0, -5 * COIN]])

    def test_takeover_for_cash(self):
        paid = [0, 0, 0, -84, [0], -84]
        told = HELD + [takeover(1, 2, 3, 6, 4, 3, 2, 1500000, 5 * COIN, 0)]
        self.see(told, self.BEFORE, [0, 0, 0, -100, [1, 6, 16, 2, 0], -84], paid)
        self.assertEqual(ask(told, entitled(1), action(1)),
                         [[11, -11, 0, 6, 16, 2, 0], [5, 1, 2, 3, 6, 4, 3, 2, 1500000, 5 * COIN, 0]])
        self.see_at_once(HELD + [takeover(1, 2, 3, 3, 3, 3, 2, 1500000, 5 * COIN, 0)], self.BEFORE, paid)

    def test_takeover_for_some_of_each(self):
        # 6 at 1.5 coins: 9; 15 halves: 7, and half of 5 coins.
        paid = [0, 7, 0, -89, [0], 51]
        told = HELD + [takeover(1, 2, 3, 6, 4, 3, 2, 1500000, 5 * COIN, 5)]
        self.see(told, self.BEFORE, [0, 0, 0, -100, [1, 6, 11, 2, 7], 51], paid)
        self.assertEqual(ask(told, entitled(1)), [[11, -11, 0, 6, 11, 2, 7]])
        self.see_at_once(HELD + [takeover(1, 2, 3, 3, 3, 3, 2, 1500000, 5 * COIN, 5)], self.BEFORE, paid)

    def test_takeover_with_a_choice_above_what_there_is(self):
        # 33 halves: 16, and half of 5 coins.
        paid = [0, 16, 0, -98, [0], 222]
        told = HELD + [takeover(1, 2, 3, 6, 4, 3, 2, 1500000, 5 * COIN, 12)]
        self.see(told, self.BEFORE, [0, 0, 0, -100, [1, 6, 2, 2, 16], 222], paid)
        for choice in (11, 12, 10 ** 12):
            told = HELD + [takeover(1, 2, 3, 3, 3, 3, 2, 1500000, 5 * COIN, choice)]
            self.see_at_once(told, self.BEFORE, paid)
            self.assertEqual(ask(told, entitled(1)), [[11, -11, 0, 3, 2, 2, 16]])

    def test_on_the_first_and_the_last_day(self):
        told = [trade(99999, 1, 10), dividend(1, 100000, 100000, COIN), dividend(1, 0, 100000, COIN)]
        self.assertEqual(ask(told, cash(99999), cash(100000), due(99999), due(100000), entitled(1), entitled(2)), [
            [0, 0], [0, 10], [1, 100000, 0, 0, 0], [0], [10, 0, 0, 100000, 10, 0, 0], [0, 0, 0, 100000, 0, 0, 0],
        ])


class ChooseTest(unittest.TestCase):
    def test_a_choice_changed_is_as_if_told_so(self):
        kinds = {
            "rights": lambda choice: rights(1, 3, 6, 4, 1, 2, 2500000, 7100000, choice),
            "takeover": lambda choice: takeover(1, 2, 3, 6, 4, 3, 2, 1500000, 5 * COIN, choice),
        }
        asked = all_questions(range(8), 1)
        for name, kind in kinds.items():
            for first, then in itertools.permutations((0, 2, 5, 11, 12, 10 ** 12), 2):
                with self.subTest(name=name, first=first, then=then):
                    changed = HELD + [kind(first), choose(1, then)]
                    self.assertEqual(ask(changed, *asked), ask(HELD + [kind(then)], *asked))

    def test_it_changes_no_evening_before_the_ex_day(self):
        told = HELD + [rights(1, 3, 6, 5, 1, 2, COIN, COIN, 0)]
        self.assertEqual(evening(told, 2), evening(told + [choose(1, 4)], 2))
        self.assertNotEqual(evening(told, 3), evening(told + [choose(1, 4)], 3))

    def test_refused_it_leaves_what_is_due(self):
        told = HELD + [rights(1, 3, 6, 4, 1, 2, COIN, COIN, 2), today(5)]
        asked = all_questions(range(8), 1)
        rows = rows_of(*told, choose(1, 4), *asked)
        self.assertEqual(rows[len(told)], [-9])
        self.assertEqual(rows[len(told) + 1:], ask(told, *asked))


class OneExDayTest(unittest.TestCase):
    ACTIONS = [
        split(1, 3, 5, 2, 1),
        dividend(1, 3, 6, COIN),
        spinoff(1, 2, 3, 4, 1, 2, 4 * COIN),
        rights(1, 3, 6, 4, 1, 2, COIN, 2 * COIN, 3),
    ]
    BROUGHT = [[11, 11, 0, 5, 0, 0, 0], [11, 0, 0, 6, 11, 0, 0], [11, 0, 5, 4, 2, 0, 0], [11, 0, 0, 6, -4, 1, 3]]

    def test_each_has_q_of_the_evening_before_whatever_their_order(self):
        for order in itertools.permutations(range(4)):
            told = HELD + [self.ACTIONS[number] for number in order]
            brought = [self.BROUGHT[number] for number in order]
            rows = [one for row in brought for one in row[3:]]
            left = [one for row in brought for one in row[3:] if row[3] > 4]
            self.assertEqual(ask(told, *[entitled(number) for number in range(1, 5)]), brought)
            self.assertEqual(ask(told, due(2), due(3), due(4), due(6)), [[0], [4] + rows, [3] + left, [0]])
            self.assertEqual(ask(told, positions(3), positions(6)), [[22, 5] + [0] * 10, [25, 5] + [0] * 10])
            self.assertEqual(ask(told, *[cash(day) for day in (3, 4, 5, 6)]), [[0, -100], [0, -98], [0, -98], [0, -91]])

    def test_a_take_over_and_others(self):
        told = HELD + [takeover(1, 2, 3, 5, 4, 1, 1, COIN, 0, 6), dividend(1, 3, 6, COIN), spinoff(1, 3, 3, 3, 1, 1)]
        self.assertEqual(ask(told, entitled(1), entitled(2), entitled(3)),
                         [[11, -11, 0, 5, 5, 2, 6], [11, 0, 0, 6, 11, 0, 0], [11, 0, 11, 3, 0, 0, 0]])
        self.assertEqual(evening(told, 3), [0, 0, 11, -100, [2, 5, 5, 2, 6, 6, 11, 0, 0], 366])
        self.assertEqual(evening(told, 5), [0, 6, 11, -95, [1, 6, 11, 0, 0], 366])
        self.assertEqual(evening(told, 6), [0, 6, 11, -84, [0], 366])

    def test_what_comes_in_on_an_ex_day_is_not_in_its_q(self):
        told = HELD + [rights(1, 3, 6, 4, 1, 1, 0, 0, 11), dividend(1, 6, 7, COIN), dividend(1, 7, 8, COIN)]
        self.assertEqual(ask(told, entitled(2), entitled(3)), [[11, 0, 0, 7, 11, 0, 0], [22, 0, 0, 8, 22, 0, 0]])


class ToldLateTest(unittest.TestCase):
    """The order in which things are told has no say, but in the numbers of the actions."""

    TOLD = [
        trade(1, 1, 40, 100), trade(4, 1, 5, 20), trade(8, 2, 3, 9), trade(11, 1, -7, 70),
        dividend(1, 3, 9, 1500000), split(1, 5, 7, 3, 2, COIN), spinoff(1, 2, 6, 8, 1, 4, 3 * COIN),
        rights(1, 7, 12, 9, 1, 5, 2 * COIN, 3 * COIN, 6), takeover(2, 3, 10, 13, 11, 2, 3, 4 * COIN, 5 * COIN, 9),
        price(2, 1, 3 * COIN), price(5, 1, 2 * COIN), price(6, 2, 7 * COIN), price(12, 3, 11 * COIN),
    ]
    DAYS = range(16)

    def seen(self, told):
        asked = []
        for day in self.DAYS:
            asked += [positions(day), cash(day), due(day), value(day)]
        return ask(told, *asked)

    def test_every_order(self):
        wanted = self.seen(self.TOLD)
        sale = self.TOLD[3]
        others = self.TOLD[:3] + self.TOLD[4:]
        for step in range(len(others)):
            turned = others[step:] + others[:step]
            # A sale is only let in behind what it sells.
            self.assertEqual(self.seen(turned + [sale]), wanted)
            self.assertEqual(self.seen(turned[::-1] + [sale]), wanted)
            self.assertEqual(self.seen([today(90)] + turned + [sale]), wanted)
            self.assertEqual(self.seen(turned[::2] + turned[1::2] + [sale]), wanted)

    def test_in_time_day_by_day(self):
        """Each is told when its day has come, and the evenings asked for then are the same ever after."""
        days = [1, 4, 8, 11, 3, 5, 6, 7, 10, 2, 5, 6, 12]
        wanted = self.seen(self.TOLD)
        told = []
        for day in self.DAYS:
            told += [today(day)] + [call for own, call in zip(days, self.TOLD) if own == day]
            got = ask(told, positions(day), cash(day), due(day), value(day))
            self.assertEqual(got, wanted[4 * day:4 * day + 4])

    def test_nothing_told_changes_an_earlier_evening(self):
        told = self.TOLD
        wanted = self.seen(told)
        more = [
            (5, trade(5, 1, 2, 3)), (6, trade(6, 1, -1, 3)), (7, dividend(1, 7, 8, COIN)), (8, split(1, 8, 9, 2, 1)),
            (9, spinoff(1, 4, 9, 10, 1, 1)), (10, rights(1, 10, 10, 10, 1, 1, COIN)),
            (13, takeover(1, 4, 13, 14, 13, 1, 1)), (12, price(12, 1, 1)), (7, choose(4, 0)), (10, choose(5, 0)),
        ]
        for day, call in more:
            got = self.seen(told + [call])
            self.assertEqual(got[:4 * day], wanted[:4 * day], call)
            self.assertNotEqual(got[4 * day:4 * day + 4], wanted[4 * day:4 * day + 4], call)

    def test_of_one_ex_day_told_in_another_order_the_numbers_rule(self):
        held = [trade(0, 1, 1), trade(0, 2, 1)]
        first, second, third = dividend(1, 4, 9, COIN), dividend(2, 4, 8, 2 * COIN), dividend(1, 3, 7, 3 * COIN)
        rows = {1: [9, 1, 0, 0], 2: [8, 2, 0, 0], 3: [7, 3, 0, 0]}
        self.assertEqual(ask(held + [first, second, third], due(4)), [[3] + rows[3] + rows[1] + rows[2]])
        self.assertEqual(ask(held + [second, first, third], due(4)), [[3] + rows[3] + rows[2] + rows[1]])
        self.assertEqual(ask([third, second, first] + held, due(4)), [[3] + rows[3] + rows[2] + rows[1]])
        self.assertEqual(ask([first, third, second] + held, due(4)), [[3] + rows[3] + rows[1] + rows[2]])


if __name__ == "__main__":
    unittest.main()
