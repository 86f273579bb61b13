"""answers(calls): the form of what goes in and comes back, and that nothing is changed or kept."""

import unittest

from heldthingsdesk.books import answers
from tests.lines import action, all_questions, begin, cash, choose, counts, dividend, due, entitled, joined, position
from tests.lines import positions, price, rights, rows_of, spinoff, split, takeover, taken_apart, today, trade, value

ALL_CALLS = [
    begin(),
    today(3),
    trade(0, 1, 100, 5000),
    dividend(1, 5, 8, 1500000),
    split(1, 6, 6, 3, 2, 7000000),
    spinoff(1, 2, 7, 9, 1, 4, 9000000),
    rights(1, 8, 12, 10, 1, 5, 500000, 2000000, 4),
    takeover(2, 3, 11, 14, 12, 2, 3, 1000000, 5000000, 20),
    choose(4, 30),
    choose(5, 0),
    trade(12, 1, -180, 1),
    trade(12, 1, -181, 1),
    trade(0, 1, 0, 0),
    today(2),
    price(4, 1, 3000000),
    position(6, 1),
    positions(12),
    cash(9),
    due(8),
    value(8),
    entitled(5),
    action(4),
    counts(),
    due(100001),
    entitled(6),
]


class Watched(list):
    """A list that lets nobody change it, not for a while either."""

    def refuse(self, *arguments, **named):
        raise AssertionError("the list handed in was to be changed")

    append = extend = insert = remove = pop = clear = sort = reverse = refuse
    __setitem__ = __delitem__ = __iadd__ = __imul__ = refuse


class AnswersTest(unittest.TestCase):
    def test_how_many_numbers_then_these(self):
        self.assertEqual(answers(joined(ALL_CALLS)),
                         [1, 0, 1, 0, 1, 1, 1, 1, 1, 2, 1, 3, 1, 4, 1, 5, 1, 4, 1, 20, 1, 2, 1, -7, 1, -6, 1, -1]
                         + [1, 0, 1, 150]
                         # Of thing 1 150 and 30 by rights, less 180; of thing 2 the 37 spun off are taken over.
                         + [12, 0, 0, 0, 0, 0, 0, 0, 0, 0, 0, 0, 0]
                         + [2, 0, -5000 + 150 + 4]
                         + [9, 2, 9, 4, 0, 0, 12, -60, 1, 30]
                         + [2, 0, (-5000 + 150 + 4 - 60) * 10 ** 6 + 180 * 3000000]
                         + [7, 37, -37, 0, 14, 37, 3, 0]
                         + [11, 4, 1, 0, 8, 12, 10, 1, 5, 500000, 2000000, 30]
                         + [4, 3, 2, 5, 1, 1, -1, 1, -4])

    def test_one_call(self):
        self.assertEqual(answers([0]), [1, 0])
        self.assertEqual(answers([1, -2 ** 63]), [1, -1])
        self.assertEqual(answers([8, 1, 0]), [1, -4])

    def test_kinds(self):
        got = answers(joined(ALL_CALLS))
        self.assertIs(type(got), list)
        self.assertEqual({type(number) for number in got}, {int})

    def test_the_new_object_has_today_0_and_nothing_told(self):
        self.assertEqual(answers(today(0) + choose(1, 0) + trade(0, 1, 1)), [1, 0, 1, -4, 1, 1])
        self.assertEqual(answers([17]), [4, 0, 0, 0, 0])

    def test_what_is_handed_in_stays_as_it_was(self):
        calls = joined(ALL_CALLS)
        before = list(calls)
        answers(calls)
        self.assertEqual(calls, before)
        self.assertEqual(answers(Watched(calls)), answers(calls))

    def test_a_second_time_is_as_the_first(self):
        calls = joined(ALL_CALLS)
        first = answers(calls)
        answers(joined([today(100000), trade(0, 1, 5), split(1, 6, 6, 3, 2)]))
        self.assertEqual(answers(calls), first)

    def test_what_came_back_is_not_kept(self):
        first = answers([0])
        first.append(9)
        self.assertEqual(answers([0]), [1, 0])

    def test_each_kind_of_call_is_there(self):
        self.assertEqual(sorted({call[0] for call in ALL_CALLS}), list(range(18)))


def all_that_may_be_told():
    """100 trades, 30 actions and 200 prices: as many as may be."""
    calls = [trade(day, 1 + day % 12, 10 ** 9, day) for day in range(100)]
    calls += [takeover(1 + day % 12, 1 + (day + 1) % 12, 50 + day, 100, 90, 2, 3, 5, 5, 5) for day in range(30)]
    return calls + [price(day // 2, 1 + day % 12, 10 ** 6 + day) for day in range(200)]


class LongLineTest(unittest.TestCase):
    def test_four_hundred_calls(self):
        calls = all_that_may_be_told()[:130]
        calls += [choose(1 + number % 30, number) for number in range(270)]
        rows = taken_apart(answers(joined(calls)))
        self.assertEqual(len(rows), 400)
        self.assertEqual(rows[99], [100])
        self.assertTrue(all(row[0] >= 0 for row in rows))

    def test_as_much_as_may_be_told_and_seventy_questions(self):
        told = all_that_may_be_told()
        asked = [one(99) for one in (value, due, positions, cash)] * 17 + [counts(), action(30)]
        rows = rows_of(*told, *asked)
        self.assertEqual(len(rows), 400)
        self.assertEqual(rows[:330], [[number] for number in range(1, 101)] + [[number] for number in range(1, 31)]
                         + [[0]] * 200)
        self.assertEqual(rows[330:334] * 17, rows[330:398])
        self.assertEqual(rows[331][0], 30)
        self.assertEqual(rows[331][1:5], [100, (5 * 10 ** 9 - 5) * 5 // 10 ** 6, 2, 3])
        self.assertEqual(rows[398:], [[0, 100, 30, 200], [5, 6, 7, 79, 100, 90, 2, 3, 5, 5, 5]])

    def test_four_hundred_calls_of_each_question(self):
        for question in (position(9, 1), positions(9), cash(9), due(9), value(9), entitled(1), action(1), counts()):
            told = [trade(0, 1, 7, 3), rights(1, 2, 10, 5, 1, 2, 10 ** 6, 10 ** 6, 2), price(3, 1, 5)]
            rows = rows_of(*told, *[question] * 397)
            self.assertEqual(rows[3:], [rows[3]] * 397)
            self.assertGreaterEqual(rows[3][0], 0)

    def test_eleven_numbers_a_call(self):
        calls = [takeover(1, 2, day, day, day, 1, 1, 5, 5, 5) for day in range(400)]
        flat = joined(calls)
        self.assertEqual(len(flat), 4400)
        self.assertEqual(taken_apart(answers(flat)), [[number] for number in range(1, 31)] + [[-8]] * 370)

    def test_a_long_line_stays_as_it_was_and_answers_the_same_again(self):
        flat = joined(all_that_may_be_told() + all_questions(range(90, 102), 10)[:70])
        before = list(flat)
        first = answers(Watched(flat))
        self.assertEqual(flat, before)
        self.assertEqual(answers(flat), first)
        self.assertEqual(answers(list(flat)), first)


if __name__ == "__main__":
    unittest.main()
