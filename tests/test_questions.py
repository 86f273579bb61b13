"""The calls position, positions, cash, due, entitled, action and counts: answers and refusals."""

import unittest

from tests.lines import GREATEST, LEAST, action, all_questions, ask, begin, cash, choose, counts, dividend, due
from tests.lines import entitled, position, positions, price, rights, rows_of, spinoff, split, takeover, today
from tests.lines import trade, value

COIN = 10 ** 6


def held(*first):
    """The quantities of all things, of which those behind the ones written are 0."""
    return list(first) + [0] * (12 - len(first))


class PositionTest(unittest.TestCase):
    def test_nothing_told(self):
        self.assertEqual(ask([], position(0, 1), position(100000, 12)), [[0], [0]])

    def test_evenings_before_on_and_after_a_trade(self):
        told = [trade(4, 3, 10), trade(6, 3, -4), trade(6, 12, 2)]
        asked = [position(day, 3) for day in (0, 3, 4, 5, 6, 7, 100000)]
        self.assertEqual(ask(told, *asked), [[0], [0], [10], [10], [6], [6], [6]])
        self.assertEqual(ask(told, position(5, 12), position(6, 12), position(6, 4)), [[0], [2], [0]])

    def test_an_evening_ahead_of_today_or_behind_it(self):
        told = [today(50), trade(4, 3, 10), trade(99, 3, 5)]
        self.assertEqual(ask(told, position(4, 3), position(98, 3), position(99, 3)), [[10], [10], [15]])

    def test_refusals(self):
        self.assertEqual(rows_of(position(-1, 1), position(100001, 1), position(0, 0), position(0, 13)), [[-1]] * 4)


class PositionsTest(unittest.TestCase):
    def test_nothing_told(self):
        self.assertEqual(ask([], positions(0)), [held()])

    def test_all_things_in_their_order(self):
        told = [trade(3, thing, 100 + thing) for thing in range(12, 0, -1)]
        self.assertEqual(ask(told, positions(2), positions(3)), [held(), list(range(101, 113))])

    def test_it_says_what_position_says(self):
        told = [trade(0, 1, 10), spinoff(1, 2, 3, 4, 2, 1), takeover(1, 3, 5, 7, 5, 1, 2, 0, 0, 9)]
        for day in range(9):
            each = ask(told, *[position(day, thing) for thing in range(1, 13)])
            self.assertEqual(ask(told, positions(day)), [[row[0] for row in each]])

    def test_refusals(self):
        self.assertEqual(rows_of(positions(-1), positions(100001)), [[-1], [-1]])


class CashTest(unittest.TestCase):
    def test_nothing_told(self):
        self.assertEqual(ask([], cash(0), cash(100000)), [[0, 0], [0, 0]])

    def test_bought_and_sold(self):
        told = [trade(4, 1, 10, 300), trade(6, 1, -4, 500), trade(6, 2, 1, 1)]
        self.assertEqual(ask(told, *[cash(day) for day in (3, 4, 5, 6, 7)]),
                         [[0, 0], [0, -300], [0, -300], [0, 199], [0, 199]])

    def test_what_is_due_is_not_there_before_its_pay_day(self):
        told = [trade(0, 1, 10), dividend(1, 3, 6, 2 * COIN)]
        self.assertEqual(ask(told, *[cash(day) for day in (2, 3, 5, 6)]), [[0, 0], [0, 0], [0, 0], [0, 20]])

    def test_refusals(self):
        self.assertEqual(rows_of(cash(-1), cash(100001)), [[-1], [-1]])


class DueTest(unittest.TestCase):
    def test_nothing_told(self):
        self.assertEqual(ask([], due(0), due(100000)), [[0], [0]])

    def test_from_the_ex_day_to_the_evening_before_the_pay_day(self):
        told = [trade(0, 1, 10), dividend(1, 3, 6, 2 * COIN)]
        self.assertEqual(ask(told, *[due(day) for day in (2, 3, 4, 5, 6, 7)]),
                         [[0], [1, 6, 20, 0, 0], [1, 6, 20, 0, 0], [1, 6, 20, 0, 0], [0], [0]])

    def test_with_cash_0_and_no_quantity(self):
        told = [
            dividend(1, 3, 5, COIN), split(2, 3, 5, 3, 2, COIN), spinoff(3, 4, 3, 5, 3, 2, COIN),
            rights(5, 3, 5, 5, 3, 2, COIN, COIN, 7), takeover(6, 7, 3, 5, 5, 3, 2, COIN, COIN, 7),
        ]
        rows = [5, 0, 0, 0] + [5, 0, 0, 0] + [5, 0, 0, 0] + [5, 0, 5, 0] + [5, 0, 7, 0]
        self.assertEqual(ask(told, due(2), due(3), due(4), due(5)), [[0], [5] + rows, [5] + rows, [0]])

    def test_the_thing_of_rights_and_of_a_take_over(self):
        told = [trade(0, 1, 10), rights(1, 3, 6, 3, 1, 1, 0, 0, 4), takeover(1, 2, 3, 6, 3, 1, 1, 0, 0, 0)]
        self.assertEqual(ask(told, due(3)), [[2] + [6, 0, 1, 4] + [6, 0, 2, 0]])

    def test_longer_due_comes_first_though_told_later_and_paid_later(self):
        told = [
            trade(0, 1, 1),
            dividend(1, 5, 7, 5 * COIN),
            dividend(1, 4, 8, 4 * COIN),
            dividend(1, 3, 9, 3 * COIN),
        ]
        three, four, five = [9, 3, 0, 0], [8, 4, 0, 0], [7, 5, 0, 0]
        self.assertEqual(ask(told, *[due(day) for day in (3, 4, 5, 6, 7, 8, 9)]), [
            [1] + three, [2] + three + four, [3] + three + four + five, [3] + three + four + five,
            [2] + three + four, [1] + three, [0],
        ])

    def test_of_one_ex_day_the_numbers_count_not_the_pay_days(self):
        told = [trade(0, 1, 1), trade(0, 2, 1), dividend(2, 3, 9, 2 * COIN), dividend(1, 3, 5, COIN)]
        told += [dividend(1, 2, 9, 7 * COIN), dividend(2, 3, 7, 3 * COIN)]
        self.assertEqual(ask(told, due(3), due(5)), [
            [4] + [9, 7, 0, 0] + [9, 2, 0, 0] + [5, 1, 0, 0] + [7, 3, 0, 0],
            [3] + [9, 7, 0, 0] + [9, 2, 0, 0] + [7, 3, 0, 0],
        ])

    def test_thirty_of_them(self):
        told = [trade(0, 1, 1)] + [dividend(1, 90 - day, 99, day * COIN) for day in range(30)]
        rows = [number for day in range(29, -1, -1) for number in (99, day, 0, 0)]
        self.assertEqual(ask(told, due(98), due(99), due(60)), [[30] + rows, [0], [0]])

    def test_refusals(self):
        self.assertEqual(rows_of(due(-1), due(100001)), [[-1], [-1]])


class EntitledTest(unittest.TestCase):
    def test_each_kind(self):
        told = [
            trade(0, 1, 11),
            dividend(1, 2, 9, 1500000),
            split(1, 3, 8, 3, 2, 5 * COIN),
            spinoff(1, 2, 4, 7, 3, 5, 5 * COIN),
            rights(1, 5, 9, 6, 1, 3, COIN, 2 * COIN, 2),
            takeover(2, 4, 6, 9, 7, 3, 2, 4 * COIN, 5 * COIN, 5),
        ]
        self.assertEqual(ask(told, *[entitled(number) for number in range(1, 6)]), [
            [11, 0, 0, 9, 16, 0, 0],
            # 33 halves: 16 whole, 1 half at 5 coins.
            [11, 5, 0, 8, 2, 0, 0],
            # 48 fifths: 9 whole, 3 fifths at 5 coins.
            [16, 0, 9, 7, 3, 0, 0],
            # 5 rights: 2 used for 4 coins, 3 sold for 3.
            [16, 0, 0, 9, -1, 1, 2],
            # 4 of 9 for 16 coins; 15 halves: 7 whole, 1 half at 5 coins.
            [9, -9, 0, 9, 18, 4, 7],
        ])

    def test_fewer_by_a_split(self):
        self.assertEqual(ask([trade(0, 1, 11), split(1, 2, 3, 1, 4, 8 * COIN)], entitled(1)), [[11, -9, 0, 3, 6, 0, 0]])

    def test_q_is_of_the_evening_before_the_ex_day(self):
        told = [trade(0, 1, 5), trade(1, 1, 6), trade(2, 1, 70), dividend(1, 2, 2, COIN)]
        self.assertEqual(ask(told, entitled(1)), [[11, 0, 0, 2, 11, 0, 0]])

    def test_before_day_0_nothing_is_held(self):
        told = [trade(0, 1, 5), takeover(1, 2, 0, 0, 0, 1, 1, COIN, COIN, 3), rights(1, 0, 3, 0, 1, 1)]
        self.assertEqual(ask(told, entitled(1), entitled(2)), [[0, 0, 0, 0, 0, 2, 0], [0, 0, 0, 3, 0, 1, 0]])

    def test_it_says_the_same_after_the_pay_day(self):
        told = [trade(0, 1, 5), dividend(1, 2, 3, COIN)]
        self.assertEqual(ask(told + [today(99)], entitled(1)), ask(told, entitled(1)))

    def test_q_changes_by_what_is_told_late(self):
        told = [trade(0, 1, 5), dividend(1, 4, 6, COIN)]
        self.assertEqual(ask(told + [trade(3, 1, 2)], entitled(1)), [[7, 0, 0, 6, 7, 0, 0]])
        self.assertEqual(ask(told + [split(1, 3, 3, 2, 1)], entitled(1)), [[10, 0, 0, 6, 10, 0, 0]])
        self.assertEqual(ask(told + [split(1, 4, 4, 2, 1)], entitled(1)), [[5, 0, 0, 6, 5, 0, 0]])
        self.assertEqual(ask(told + [takeover(1, 2, 3, 9, 3, 1, 1)], entitled(1)), [[0, 0, 0, 6, 0, 0, 0]])

    def test_a_later_action_of_the_number_asked_for(self):
        told = [trade(0, 1, 5), dividend(1, 4, 6, COIN), dividend(1, 3, 5, 2 * COIN)]
        self.assertEqual(ask(told, entitled(2), entitled(1)), [[5, 0, 0, 5, 10, 0, 0], [5, 0, 0, 6, 5, 0, 0]])

    def test_refusals(self):
        rows = rows_of(entitled(1), entitled(0), dividend(1, 2, 3), entitled(1), entitled(2), entitled(1000000),
                       entitled(1000001), entitled(-1), entitled(LEAST), entitled(GREATEST))
        self.assertEqual(rows, [[-4], [-1], [1], [0, 0, 0, 3, 0, 0, 0], [-4], [-4], [-1], [-1], [-1], [-1]])


class ActionTest(unittest.TestCase):
    def test_each_kind(self):
        told = [
            dividend(1, 20, 30, 41),
            split(2, 21, 31, 5, 6, 42),
            spinoff(3, 9, 22, 32, 7, 8, 43),
            rights(4, 23, 33, 28, 9, 10, 44, 54, 64),
            takeover(5, 11, 24, 34, 29, 12, 13, 45, 55, 65),
        ]
        self.assertEqual(ask(told, *[action(number) for number in range(1, 6)]), [
            [1, 1, 0, 20, 30, 0, 1, 1, 41, 0, 0],
            [2, 2, 0, 21, 31, 0, 5, 6, 42, 0, 0],
            [3, 3, 9, 22, 32, 0, 7, 8, 43, 0, 0],
            [4, 4, 0, 23, 33, 28, 9, 10, 44, 54, 64],
            [5, 5, 11, 24, 34, 29, 12, 13, 45, 55, 65],
        ])

    def test_a_changed_choice(self):
        told = [rights(4, 3, 9, 8, 1, 2, 5, 6, 7), takeover(5, 6, 3, 9, 8, 1, 2, 5, 6, 7), choose(1, 70), choose(2, 0)]
        self.assertEqual(ask(told, action(1), action(2)),
                         [[4, 4, 0, 3, 9, 8, 1, 2, 5, 6, 70], [5, 5, 6, 3, 9, 8, 1, 2, 5, 6, 0]])

    def test_a_choice_is_told_as_it_is_though_less_can_be_used(self):
        self.assertEqual(ask([rights(4, 3, 9, 8, 1, 2, 5, 6, 10 ** 12)], action(1)),
                         [[4, 4, 0, 3, 9, 8, 1, 2, 5, 6, 10 ** 12]])

    def test_the_greatest_and_least_numbers(self):
        huge = 10 ** 12
        told = [takeover(12, 1, 100000, 100000, 100000, 1000, 1000, huge, huge, huge), dividend(1, 0, 0, huge)]
        self.assertEqual(ask(told, action(1), action(2)), [
            [5, 12, 1, 100000, 100000, 100000, 1000, 1000, huge, huge, huge],
            [1, 1, 0, 0, 0, 0, 1, 1, huge, 0, 0],
        ])

    def test_refusals(self):
        rows = rows_of(action(1), action(0), dividend(1, 2, 3), action(1), action(2), action(1000000),
                       action(1000001), action(-1), action(LEAST), action(GREATEST))
        self.assertEqual(rows, [[-4], [-1], [1], [1, 1, 0, 2, 3, 0, 1, 1, 0, 0, 0], [-4], [-4], [-1], [-1], [-1], [-1]])


class CountsTest(unittest.TestCase):
    def test_nothing_told(self):
        self.assertEqual(ask([], counts()), [[0, 0, 0, 0]])

    def test_each_is_counted_by_itself(self):
        told = [today(7), trade(0, 1, 5), trade(0, 1, 5)]
        told += [dividend(1, 2, 3), split(1, 2, 3, 1, 1), rights(1, 2, 3, 3, 1, 1)]
        told += [price(0, 1, 1), price(1, 1, 1), price(2, 1, 1), price(3, 1, 1)]
        self.assertEqual(ask(told, counts()), [[7, 2, 3, 4]])

    def test_after_each_call(self):
        rows = rows_of(counts(), today(5), counts(), trade(0, 1, 1), counts(), takeover(1, 2, 3, 3, 3, 1, 1), counts(),
                       choose(1, 0), counts(), choose(1, 5), price(0, 1, 1), counts(), begin(), counts())
        self.assertEqual([row for row in rows if len(row) == 4], [
            [0, 0, 0, 0], [5, 0, 0, 0], [5, 1, 0, 0], [5, 1, 1, 0], [5, 1, 1, 0], [5, 1, 1, 1], [0, 0, 0, 0],
        ])

    def test_full(self):
        told = [trade(0, 1, 1) for number in range(100)] + [dividend(1, 2, 3) for number in range(30)]
        told += [price(day, 1, 1) for day in range(200)] + [today(100000)]
        self.assertEqual(ask(told, counts()), [[100000, 100, 30, 200]])
        rows = rows_of(*told, trade(0, 1, 1), dividend(1, 2, 3), price(500, 1, 1), counts())
        self.assertEqual(rows[-4:], [[-8], [-8], [-8], [100000, 100, 30, 200]])


class QuestionsChangeNothingTest(unittest.TestCase):
    TOLD = [
        today(3), trade(0, 1, 20, 100), dividend(1, 2, 6, COIN), split(1, 3, 5, 3, 2, COIN), price(2, 1, 9),
        spinoff(1, 2, 4, 4, 1, 2, COIN), rights(1, 5, 9, 7, 1, 2, COIN, 2 * COIN, 9), choose(4, 3), price(4, 2, 8),
        takeover(2, 3, 6, 8, 7, 2, 3, COIN, 3 * COIN, 10), trade(9, 3, -1, 50), choose(5, 12), trade(1, 1, -3, 30),
    ]

    def test_each_call_answers_the_same_whatever_was_asked_before(self):
        asked = all_questions(range(11), 5)
        plain = rows_of(*self.TOLD)
        calls = []
        for call in self.TOLD:
            calls += asked[:15] + [call]
        with_questions = rows_of(*calls)
        self.assertEqual(with_questions[15::16], plain)

    def test_each_question_answers_the_same_whatever_was_asked_before(self):
        asked = all_questions(range(11), 5)
        forth = ask(self.TOLD, *asked)
        back = ask(self.TOLD, *asked[::-1])
        self.assertEqual(forth, back[::-1])
        alone = [ask(self.TOLD, question)[0] for question in asked]
        self.assertEqual(forth, alone)

    def test_a_refused_question_changes_nothing(self):
        asked = all_questions(range(11), 5)
        wrong = [position(-1, 1), position(0, 13), positions(100001), cash(LEAST), due(GREATEST), value(-1)]
        wrong += [entitled(0), entitled(6), action(0), action(6)]
        rows = rows_of(*self.TOLD, *wrong, *asked)
        self.assertEqual(rows[13:23], [[-1]] * 7 + [[-4], [-1], [-4]])
        self.assertEqual(rows[23:], ask(self.TOLD, *asked))


class BeginTest(unittest.TestCase):
    def test_all_is_new(self):
        told = QuestionsChangeNothingTest.TOLD
        asked = all_questions(range(11), 5)
        rows = rows_of(*told, begin(), *asked)
        self.assertEqual(rows[len(told) + 1:], rows_of(*asked))
        self.assertEqual(rows_of(*told, begin(), *told, *asked)[len(told) + 1:], rows_of(*told, *asked))


class RefusalsChangeNothingTest(unittest.TestCase):
    """Whatever is refused, all that can be seen is as it was."""

    BASE = [
        today(4), trade(0, 1, 10 ** 9, 7), split(1, 1, 1, 1000, 1), split(1, 2, 2, 1000, 1), trade(2, 2, 9, 5),
        rights(1, 3, 6, 5, 1, 1, COIN, COIN, 0), takeover(2, 3, 3, 6, 3, 1, 1, COIN, COIN, 4),
        dividend(1, 5, 7, COIN), price(2, 1, 3), price(3, 2, 4),
    ]
    WRONG = {
        "today": (today(3), -1), "today out of range": (today(100001), -1),
        "trade of 0": (trade(3, 1, 0, 4), -6), "trade out of range": (trade(3, 1, 1, -1), -1),
        "trade below 0": (trade(2, 2, -10, 5), -7), "trade above": (trade(2, 1, 1, 5), -7),
        "dividend": (dividend(1, 5, 4, 3), -3), "split already": (split(2, 3, 4, 1, 1), -5),
        "split above": (split(1, 5, 5, 2, 1), -7), "spinoff": (spinoff(1, 1, 5, 5, 1, 1), -6),
        "spinoff above": (spinoff(1, 2, 5, 5, 2, 1), -7), "rights": (rights(1, 3, 6, 7, 1, 1), -3),
        "rights above": (rights(1, 3, 6, 6, 1, 1, 0, 0, 1), -7),
        "takeover already": (takeover(2, 1, 3, 6, 3, 1, 1), -5),
        "takeover above": (takeover(3, 1, 7, 7, 7, 1, 1, 0, 0, 1), -7),
        "choose none": (choose(7, 1), -4), "choose a split": (choose(1, 1), -6), "choose too late": (choose(4, 1), -9),
        "choose above": (choose(3, 1), -7), "choose out of range": (choose(3, -1), -1),
        "price already": (price(2, 1, 9), -5), "price out of range": (price(2, 1, -1), -1),
    }

    def test_all_that_can_be_seen_stays(self):
        asked = all_questions(range(9), 5)
        before = ask(self.BASE, *asked)
        for name, (call, refusal) in self.WRONG.items():
            with self.subTest(name=name):
                rows = rows_of(*self.BASE, call, *asked, call)
                self.assertEqual(rows[len(self.BASE)], [refusal])
                self.assertEqual(rows[len(self.BASE) + 1:-1], before)
                self.assertEqual(rows[-1], [refusal])


if __name__ == "__main__":
    unittest.main()
