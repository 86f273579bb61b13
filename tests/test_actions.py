"""What each kind of action brings for a quantity held: points 1 to 5 of the document."""

import unittest

from heldthingsdesk.actions import Action, DIVIDEND, RIGHTS, SPINOFF, SPLIT, TAKEOVER, entitlement
from heldthingsdesk.books import ARGUMENTS
from tests import lines


def brought(kind, call, held):
    """What is brought: change, spun, and the due's pay-day, cash, thing, quantity."""
    got = entitlement(Action(kind, dict(zip(ARGUMENTS[call[0]], call[1:]))), held)
    assert got.held == held
    return (got.change, got.spun, got.due.pay, got.due.cash, got.due.thing, got.due.quantity)


class DividendTest(unittest.TestCase):
    def test_cash_is_q_times_the_rate_over_a_million(self):
        self.assertEqual(brought(DIVIDEND, lines.dividend(1, 3, 9, 2500000), 100), (0, 0, 9, 250, 0, 0))

    def test_cash_is_rounded_down(self):
        self.assertEqual(brought(DIVIDEND, lines.dividend(1, 3, 9, 999999), 1), (0, 0, 9, 0, 0, 0))
        self.assertEqual(brought(DIVIDEND, lines.dividend(1, 3, 9, 1000000), 1), (0, 0, 9, 1, 0, 0))
        self.assertEqual(brought(DIVIDEND, lines.dividend(1, 3, 9, 1999999), 1), (0, 0, 9, 1, 0, 0))

    def test_nothing_held_brings_nothing(self):
        self.assertEqual(brought(DIVIDEND, lines.dividend(1, 3, 9, 10 ** 12), 0), (0, 0, 9, 0, 0, 0))

    def test_great_numbers_stay_exact(self):
        call = lines.dividend(1, 3, 9, 10 ** 12 - 1)
        cash = (10 ** 15 * (10 ** 12 - 1)) // 10 ** 6
        self.assertEqual(brought(DIVIDEND, call, 10 ** 15), (0, 0, 9, cash, 0, 0))


class SplitTest(unittest.TestCase):
    def test_more_of_it(self):
        self.assertEqual(brought(SPLIT, lines.split(1, 3, 9, 3, 1, 7000000), 10), (20, 0, 9, 0, 0, 0))

    def test_fewer_of_it_and_parts_in_cash(self):
        # 10 times 1 over 3 is 3, 1 third is left: 1 times 9 coins over 3.
        self.assertEqual(brought(SPLIT, lines.split(1, 3, 9, 1, 3, 9000000), 10), (-7, 0, 9, 3, 0, 0))

    def test_parts_are_rounded_down(self):
        # 2 thirds of 1 coin and 499999 millionths are just below 1 coin.
        self.assertEqual(brought(SPLIT, lines.split(1, 3, 9, 1, 3, 1499999), 5), (-4, 0, 9, 0, 0, 0))
        self.assertEqual(brought(SPLIT, lines.split(1, 3, 9, 1, 3, 1500000), 5), (-4, 0, 9, 1, 0, 0))

    def test_a_may_be_b(self):
        self.assertEqual(brought(SPLIT, lines.split(1, 3, 9, 7, 7, 9000000), 11), (0, 0, 9, 0, 0, 0))

    def test_nothing_held(self):
        self.assertEqual(brought(SPLIT, lines.split(1, 3, 9, 1, 3, 9000000), 0), (0, 0, 9, 0, 0, 0))

    def test_all_may_go_for_parts(self):
        self.assertEqual(brought(SPLIT, lines.split(1, 3, 9, 1, 1000, 10 ** 9), 999), (-999, 0, 9, 999, 0, 0))


class SpinoffTest(unittest.TestCase):
    def test_the_other_thing_comes_and_its_own_stays(self):
        self.assertEqual(brought(SPINOFF, lines.spinoff(1, 2, 3, 9, 1, 4, 8000000), 11), (0, 2, 9, 6, 0, 0))

    def test_more_than_one_for_one(self):
        self.assertEqual(brought(SPINOFF, lines.spinoff(1, 2, 3, 9, 5, 2, 3000000), 3), (0, 7, 9, 1, 0, 0))

    def test_nothing_held(self):
        self.assertEqual(brought(SPINOFF, lines.spinoff(1, 2, 3, 9, 5, 2, 3000000), 0), (0, 0, 9, 0, 0, 0))


class RightsTest(unittest.TestCase):
    def test_none_used(self):
        call = lines.rights(4, 3, 9, 6, 1, 3, 1500000, 2000000, 0)
        self.assertEqual(brought(RIGHTS, call, 10), (0, 0, 9, 4, 4, 0))

    def test_some_used(self):
        call = lines.rights(4, 3, 9, 6, 1, 3, 1500000, 2000000, 2)
        self.assertEqual(brought(RIGHTS, call, 10), (0, 0, 9, 1 - 4, 4, 2))

    def test_the_choice_goes_no_further_than_the_rights(self):
        call = lines.rights(4, 3, 9, 6, 1, 3, 1500000, 2000000, 10 ** 12)
        self.assertEqual(brought(RIGHTS, call, 10), (0, 0, 9, -6, 4, 3))

    def test_what_is_sold_is_rounded_down_and_what_is_paid_rounded_up(self):
        call = lines.rights(4, 3, 9, 6, 1, 1, 1999999, 1000001, 1)
        self.assertEqual(brought(RIGHTS, call, 2), (0, 0, 9, 1 - 2, 4, 1))

    def test_rounding_up_leaves_whole_coins_alone(self):
        call = lines.rights(4, 3, 9, 6, 1, 1, 0, 3000000, 2)
        self.assertEqual(brought(RIGHTS, call, 2), (0, 0, 9, -6, 4, 2))
        call = lines.rights(4, 3, 9, 6, 1, 1, 0, 1, 1)
        self.assertEqual(brought(RIGHTS, call, 2), (0, 0, 9, -1, 4, 1))

    def test_all_used_is_paid_for_at_once_not_one_by_one(self):
        call = lines.rights(4, 3, 9, 6, 1, 1, 0, 500000, 3)
        self.assertEqual(brought(RIGHTS, call, 3), (0, 0, 9, -2, 4, 3))

    def test_nothing_held(self):
        call = lines.rights(4, 3, 9, 6, 1000, 1, 1500000, 2000000, 5)
        self.assertEqual(brought(RIGHTS, call, 0), (0, 0, 9, 0, 4, 0))


class TakeoverTest(unittest.TestCase):
    def test_all_for_cash(self):
        call = lines.takeover(1, 2, 3, 9, 6, 1, 2, 1500000, 10 ** 12, 0)
        self.assertEqual(brought(TAKEOVER, call, 11), (-11, 0, 9, 16, 2, 0))

    def test_all_for_the_other_thing(self):
        call = lines.takeover(1, 2, 3, 9, 6, 2, 3, 10 ** 12, 6000000, 11)
        # 22 thirds: 7 whole, 1 third at 6 coins.
        self.assertEqual(brought(TAKEOVER, call, 11), (-11, 0, 9, 2, 2, 7))

    def test_the_choice_goes_no_further_than_what_is_held(self):
        call = lines.takeover(1, 2, 3, 9, 6, 2, 3, 10 ** 12, 6000000, 12)
        self.assertEqual(brought(TAKEOVER, call, 11), (-11, 0, 9, 2, 2, 7))

    def test_some_of_each_and_each_rounded_down_by_itself(self):
        # 3 for 1.5 coins each: 4; 1 third at 2.999999 coins: 0; together not 5.
        call = lines.takeover(1, 2, 3, 9, 6, 1, 3, 1500000, 2999999, 4)
        self.assertEqual(brought(TAKEOVER, call, 7), (-7, 0, 9, 4, 2, 1))

    def test_nothing_held(self):
        call = lines.takeover(1, 2, 3, 9, 6, 1, 3, 1500000, 2999999, 4)
        self.assertEqual(brought(TAKEOVER, call, 0), (0, 0, 9, 0, 2, 0))


class ActionTest(unittest.TestCase):
    def test_kinds_are_numbered_as_the_document_lists_them(self):
        self.assertEqual((DIVIDEND, SPLIT, SPINOFF, RIGHTS, TAKEOVER), (1, 2, 3, 4, 5))

    def test_what_a_kind_does_not_have_is_0_and_its_ratio_1_for_1(self):
        action = Action(DIVIDEND, dict(zip(ARGUMENTS[3], lines.dividend(4, 3, 9, 8)[1:])))
        self.assertEqual((action.thing, action.other, action.ex, action.pay, action.last), (4, 0, 3, 9, 0))
        self.assertEqual((action.a, action.b, action.rate), (1, 1, 8))
        self.assertEqual((action.price, action.for_each, action.choice), (0, 0, 0))
        action = Action(SPLIT, dict(zip(ARGUMENTS[4], lines.split(4, 3, 9, 2, 5, 8)[1:])))
        self.assertEqual((action.a, action.b, action.rate, action.price), (2, 5, 0, 8))

    def test_another_choice_leaves_the_action_as_it_was(self):
        call = lines.rights(4, 3, 9, 6, 1, 3, 1500000, 2000000, 1)
        action = Action(RIGHTS, dict(zip(ARGUMENTS[6], call[1:])))
        other = action.with_choice(2)
        self.assertEqual((action.choice, other.choice), (1, 2))
        self.assertEqual(entitlement(action, 10).due.quantity, 1)
        self.assertEqual(entitlement(other, 10).due.quantity, 2)


if __name__ == "__main__":
    unittest.main()
