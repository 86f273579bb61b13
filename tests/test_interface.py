"""answers(calls): the form of what goes in and comes back, and that nothing is changed or kept."""

import unittest

from heldthingsdesk.books import answers
from tests.lines import begin, choose, dividend, joined, rights, spinoff, split, takeover, taken_apart, today, trade

ALL_CALLS = [
    begin(),
    today(3),
    trade(0, 1, 100, 5000),
    dividend(1, 5, 8, 1500000),
    split(1, 6, 6, 3, 2, 7000000),
    spinoff(1, 2, 7, 9, 1, 4, 9000000),
    rights(1, 8, 12, 10, 1, 5, 500000, 2000000, 4),
    takeover(2, 3, 11, 14, 12, 2, 3, 1000000, 5000000, 20),
    choose(4, 30),
    choose(5, 0),
    trade(12, 1, -180, 1),
    trade(12, 1, -181, 1),
    trade(0, 1, 0, 0),
    today(2),
]


class Watched(list):
    """A list that lets nobody change it, not for a while either."""

    def refuse(self, *arguments, **named):
        raise AssertionError("the list handed in was to be changed")

    append = extend = insert = remove = pop = clear = sort = reverse = refuse
    __setitem__ = __delitem__ = __iadd__ = __imul__ = refuse


class AnswersTest(unittest.TestCase):
    def test_how_many_numbers_then_these(self):
        self.assertEqual(answers(joined(ALL_CALLS)),
                         [1, 0, 1, 0, 1, 1, 1, 1, 1, 2, 1, 3, 1, 4, 1, 5, 1, 4, 1, 20, 1, 2, 1, -7, 1, -6, 1, -1])

    def test_one_call(self):
        self.assertEqual(answers([0]), [1, 0])
        self.assertEqual(answers([1, -2 ** 63]), [1, -1])
        self.assertEqual(answers([8, 1, 0]), [1, -4])

    def test_kinds(self):
        got = answers(joined(ALL_CALLS))
        self.assertIs(type(got), list)
        self.assertEqual({type(number) for number in got}, {int})

    def test_the_new_object_has_today_0_and_nothing_told(self):
        self.assertEqual(answers(today(0) + choose(1, 0) + trade(0, 1, 1)), [1, 0, 1, -4, 1, 1])

    def test_what_is_handed_in_stays_as_it_was(self):
        calls = joined(ALL_CALLS)
        before = list(calls)
        answers(calls)
        self.assertEqual(calls, before)
        self.assertEqual(answers(Watched(calls)), answers(calls))

    def test_a_second_time_is_as_the_first(self):
        calls = joined(ALL_CALLS)
        first = answers(calls)
        answers(joined([today(100000), trade(0, 1, 5), split(1, 6, 6, 3, 2)]))
        self.assertEqual(answers(calls), first)

    def test_what_came_back_is_not_kept(self):
        first = answers([0])
        first.append(9)
        self.assertEqual(answers([0]), [1, 0])

    def test_four_hundred_calls(self):
        calls = [trade(day, 1 + day % 12, 10 ** 9, day) for day in range(100)]
        calls += [takeover(1 + day % 12, 1 + (day + 1) % 12, 50 + day, 100, 90, 2, 3, 5, 5, 5) for day in range(30)]
        calls += [choose(1 + number % 30, number) for number in range(270)]
        rows = taken_apart(answers(joined(calls)))
        self.assertEqual(len(rows), 400)
        self.assertEqual(rows[99], [100])


if __name__ == "__main__":
    unittest.main()
