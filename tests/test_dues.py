"""Promises [2], [11], [12]: what comes in of debts and what is lost, day by day."""

import random
import unittest

from tests.helper import Asking
from tranchefall.dues import by_pool, told_days

ANN = ("ann", "p", [(1, 10), (3, 20), (5, 30)])
BOB = ("bob", "q", [(2, 7)])


def days_with(many, at):
    """Days without anything but those told in a dict: day to pair."""
    return [at.get(day, ([], [])) for day in range(1, many + 1)]


def told_slowly(debts, events, many):
    """Every amount of a plan goes its own way: a list of its debt, its coins and its day."""
    amounts = [[name, coins, day] for name, _, plan in debts for day, coins in plan]
    ends = []
    for day in range(1, many + 1):
        for event in events:
            if event[2] != day:
                continue
            for amount in [one for one in amounts if one[0] == event[1]]:
                if event[0] == "late" and amount[2] == day:
                    amount[2] += event[3]
                elif event[0] == "early":
                    amount[2] = day
                elif event[0] == "quit":
                    amounts.remove(amount)
                    ends.append((day, "lost", amount[0], amount[1]))
        for amount in [one for one in amounts if one[2] == day]:
            amounts.remove(amount)
            ends.append((day, "paid", amount[0], amount[1]))
    names = [debt[0] for debt in debts]

    def summed(things):
        return [(name, sum(coins for one, coins in things if one == name)) for name in names
                if any(one == name for one, _ in things)]

    days = []
    for day in range(1, many + 1):
        days.append(tuple(summed([end[2:] for end in ends if end[:2] == (day, way)]) for way in ("paid", "lost")))
    return days, summed([amount[:2] for amount in amounts])


class ToldDays(Asking, unittest.TestCase):
    def assert_told(self, debts, events, many, at, left):
        told = self.assert_own(told_days, debts, events, many)
        self.assertEqual(told, (days_with(many, at), left))
        self.assertEqual(told, told_slowly(debts, events, many))
        self.assertIs(type(told), tuple)
        self.assertEqual({type(day) for day in told[0]} | {tuple}, {tuple})

    def test_no_events(self):
        at = {1: ([("ann", 10)], []), 2: ([("bob", 7)], []), 3: ([("ann", 20)], []), 5: ([("ann", 30)], [])}
        self.assert_told([ANN, BOB], [], 6, at, [])
        self.assert_told([ANN, BOB], [], 5, at, [])
        self.assert_told([ANN, BOB], [], 4, at, [("ann", 30)])
        self.assert_told([ANN, BOB], [], 1, at, [("ann", 50), ("bob", 7)])

    def test_no_days_and_no_debts(self):
        self.assert_told([ANN, BOB], [("quit", "ann", 1)], 0, {}, [("ann", 60), ("bob", 7)])
        self.assert_told([BOB, ANN], [], 0, {}, [("bob", 7), ("ann", 60)])
        self.assert_told([], [], 0, {}, [])
        self.assert_told([], [], 3, {}, [])

    def test_in_the_order_of_the_debts(self):
        cid = ("cid", "p", [(2, 1), (3, 9)])
        at = {1: ([("ann", 10)], []), 2: ([("cid", 1), ("bob", 7)], []), 3: ([("cid", 9), ("ann", 20)], [])}
        self.assert_told([cid, BOB, ANN], [], 3, at, [("ann", 30)])
        events = [("quit", "ann", 1), ("quit", "bob", 1), ("quit", "cid", 1)]
        self.assert_told([cid, BOB, ANN], events, 1, {1: ([], [("cid", 10), ("bob", 7), ("ann", 60)])}, [])

    def test_late(self):
        at = {1: ([("ann", 10)], []), 5: ([("ann", 50)], [])}
        self.assert_told([ANN], [("late", "ann", 3, 2)], 5, at, [])
        at = {1: ([("ann", 10)], []), 4: ([("ann", 20)], []), 5: ([("ann", 30)], [])}
        self.assert_told([ANN], [("late", "ann", 3, 1)], 5, at, [])
        at = {3: ([("ann", 20)], []), 5: ([("ann", 30)], []), 31: ([("ann", 10)], [])}
        self.assert_told([ANN], [("late", "ann", 1, 30)], 31, at, [])
        self.assert_told([ANN], [("late", "ann", 1, 30)], 30, at, [("ann", 10)])

    def test_late_again_on_the_later_day(self):
        at = {3: ([("ann", 20)], []), 5: ([("ann", 30)], []), 6: ([("ann", 10)], [])}
        self.assert_told([ANN], [("late", "ann", 1, 1), ("late", "ann", 2, 4)], 9, at, [])
        self.assert_told([ANN], [("late", "ann", 2, 4), ("late", "ann", 1, 1)], 9, at, [])

    def test_late_on_a_day_where_nothing_is_to_come(self):
        at = {1: ([("ann", 10)], []), 3: ([("ann", 20)], []), 5: ([("ann", 30)], [])}
        self.assert_told([ANN], [("late", "ann", 2, 2), ("late", "ann", 6, 1)], 8, at, [])

    def test_early(self):
        self.assert_told([ANN], [("early", "ann", 1)], 6, {1: ([("ann", 60)], [])}, [])
        at = {1: ([("ann", 10)], []), 2: ([("ann", 50)], [])}
        self.assert_told([ANN], [("early", "ann", 2)], 6, at, [])
        self.assert_told([ANN], [("early", "ann", 2), ("early", "ann", 3)], 6, at, [])

    def test_quit(self):
        self.assert_told([ANN], [("quit", "ann", 1)], 6, {1: ([], [("ann", 60)])}, [])
        at = {1: ([("ann", 10)], []), 4: ([], [("ann", 30)]), 3: ([("ann", 20)], [])}
        self.assert_told([ANN], [("quit", "ann", 4)], 6, at, [])
        self.assert_told([ANN], [("quit", "ann", 4), ("quit", "ann", 4), ("quit", "ann", 5)], 6, at, [])

    def test_two_of_one_debt_on_one_day_in_both_orders(self):
        late = ("late", "ann", 3, 1)
        early = ("early", "ann", 3)
        stop = ("quit", "ann", 3)
        one = {1: ([("ann", 10)], [])}
        self.assert_told([ANN], [late, early], 6, {**one, 3: ([("ann", 50)], [])}, [])
        self.assert_told([ANN], [early, late], 6, {**one, 4: ([("ann", 50)], [])}, [])
        for events in ([late, stop], [stop, late], [early, stop], [stop, early], [late, early, stop], [stop, late, early]):
            self.assert_told([ANN], events, 6, {**one, 3: ([], [("ann", 50)])}, [])
        self.assert_told([ANN], [late, late], 6, {**one, 4: ([("ann", 20)], []), 5: ([("ann", 30)], [])}, [])
        self.assert_told([ANN], [late, early, late], 6, {**one, 4: ([("ann", 50)], [])}, [])

    def test_nothing_to_come(self):
        at = {2: ([("bob", 7)], [])}
        for day in (3, 9):
            for event in (("late", "bob", day, 1), ("early", "bob", day), ("quit", "bob", day)):
                self.assert_told([BOB], [event], 12, at, [])
        self.assert_told([BOB], [("quit", "bob", 1), ("early", "bob", 1), ("late", "bob", 1, 1)], 12,
                         {1: ([], [("bob", 7)])}, [])

    def test_beyond_the_last_day(self):
        self.assert_told([BOB], [("late", "bob", 2, 1)], 2, {}, [("bob", 7)])
        self.assert_told([BOB], [("late", "bob", 2, 30)], 31, {}, [("bob", 7)])
        self.assert_told([BOB], [("late", "bob", 2, 30)], 32, {32: ([("bob", 7)], [])}, [])
        self.assert_told([BOB], [("quit", "bob", 3)], 2, {2: ([("bob", 7)], [])}, [])
        self.assert_told([ANN], [("quit", "ann", 4)], 3, {1: ([("ann", 10)], []), 3: ([("ann", 20)], [])}, [("ann", 30)])

    def test_the_last_days_that_can_be(self):
        debt = ("d", "p", [(60, 5)])
        self.assert_told([debt], [("late", "d", 60, 30)], 120, {90: ([("d", 5)], [])}, [])

    def test_great_numbers(self):
        debt = ("d", "p", [(1, 10 ** 30), (2, 10 ** 30)])
        self.assert_told([debt], [("early", "d", 1)], 1, {1: ([("d", 2 * 10 ** 30)], [])}, [])

    def test_made_debts(self):
        for seed in range(400):
            chance = random.Random(seed)
            debts = []
            for name in "abcd"[: chance.randint(0, 4)]:
                days = sorted(chance.sample(range(1, 16), chance.randint(1, 6)))
                debts.append((name, "p", [(day, chance.randint(1, 99)) for day in days]))
            events = []
            for _ in range(chance.randint(0, 12) if debts else 0):
                name = chance.choice(debts)[0]
                day = chance.randint(1, 15)
                events.append(chance.choice((("late", name, day, chance.randint(1, 6)), ("late", name, day, 1),
                                             ("early", name, day), ("quit", name, day))))
            many = chance.randint(0, 25)
            days, left = self.assert_own(told_days, debts, events, many)
            self.assertEqual((days, left), told_slowly(debts, events, many))
            for name, _, plan in debts:
                told = [pair for paid, lost in days for pair in paid + lost] + left
                self.assertEqual(sum(coins for one, coins in told if one == name), sum(coins for _, coins in plan))
                self.assertTrue(all(coins > 0 for _, coins in told))


class ByPool(Asking, unittest.TestCase):
    DEBTS = [ANN, BOB, ("cid", "p", [(1, 4)]), ("dan", "z", [(1, 5)])]
    DAYS = [
        ([("ann", 10), ("cid", 4), ("dan", 5)], []),
        ([("bob", 7)], [("ann", 50), ("cid", 3)]),
        ([], []),
    ]

    def test_sums(self):
        told = self.assert_own(by_pool, self.DEBTS, self.DAYS, ["p", "q"])
        self.assertEqual(told, [([14, 0], [0, 0]), ([0, 7], [53, 0]), ([0, 0], [0, 0])])
        self.assertEqual({type(day) for day in told}, {tuple})

    def test_the_order_of_the_pools(self):
        told = self.assert_own(by_pool, self.DEBTS, self.DAYS, ["q", "z", "p"])
        self.assertEqual(told, [([0, 5, 14], [0, 0, 0]), ([7, 0, 0], [0, 0, 53]), ([0, 0, 0], [0, 0, 0])])

    def test_pools_that_no_debt_has(self):
        told = self.assert_own(by_pool, self.DEBTS, self.DAYS, ["none", "p", "other"])
        self.assertEqual(told, [([0, 14, 0], [0, 0, 0]), ([0, 0, 0], [0, 53, 0]), ([0, 0, 0], [0, 0, 0])])

    def test_no_pools_no_days_no_debts(self):
        self.assertEqual(self.assert_own(by_pool, self.DEBTS, self.DAYS, []), [([], [])] * 3)
        self.assertEqual(self.assert_own(by_pool, self.DEBTS, [], ["p"]), [])
        self.assertEqual(self.assert_own(by_pool, [], [([], [])], ["p", "q"]), [([0, 0], [0, 0])])

    def test_of_told_days(self):
        days, left = told_days(self.DEBTS, [("quit", "ann", 2), ("late", "cid", 1, 1)], 3)
        self.assertEqual(by_pool(self.DEBTS, days, ["p", "q"]), [([10, 0], [0, 0]), ([4, 7], [50, 0]), ([0, 0], [0, 0])])
        self.assertEqual(left, [])

    def test_great_numbers(self):
        days = [([("ann", 10 ** 30), ("cid", 10 ** 30)], [])]
        self.assertEqual(by_pool(self.DEBTS, days, ["p"]), [([2 * 10 ** 30], [0])])


if __name__ == "__main__":
    unittest.main()
