"""Promises [2], [20], [27]: more losses, and what becomes of claims by them."""

import unittest

from tests.helper import Asking, Making, rows_text
from tranchefall.reader import read_deal
from tranchefall.reports import claim_rows
from tranchefall.whatif import added_losses, compared

DEAL = read_deal(rows_text(
    "pool p", "claim a 100 10", "claim b 20 5", "eat b a", "order o", "pay a", "pay b", "rest b",
    "pool q", "claim c 9 3", "eat c", "order o", "pay c", "rest c",
))
DAYS = [([30, 5], [0, 0]), ([30, 5], [1, 2]), ([30, 5], [0, 0])]


class AddedLosses(Asking, unittest.TestCase):
    def added(self, rows):
        told = self.assert_own(added_losses, DEAL, DAYS, rows)
        self.assertIs(type(told), list)
        self.assertEqual({type(day) for day in told}, {tuple})
        self.assertEqual([incomes for incomes, _ in told], [incomes for incomes, _ in DAYS])
        return [losses for _, losses in told]

    def test_no_rows(self):
        self.assertEqual(self.assert_own(added_losses, DEAL, DAYS, []), DAYS)

    def test_one_row(self):
        self.assertEqual(self.added([(1, "p", 7)]), [[7, 0], [1, 2], [0, 0]])
        self.assertEqual(self.added([(2, "q", 7)]), [[0, 0], [1, 9], [0, 0]])
        self.assertEqual(self.added([(3, "q", 7)]), [[0, 0], [1, 2], [0, 7]])

    def test_several_rows_of_one_day_and_pool(self):
        rows = [(2, "p", 7), (1, "q", 1), (2, "p", 5), (2, "p", 0), (2, "q", 4), (2, "p", 7)]
        self.assertEqual(self.added(rows), [[0, 1], [20, 6], [0, 0]])
        self.assertEqual(self.added(rows[::-1]), [[0, 1], [20, 6], [0, 0]])

    def test_days_and_pools_that_are_not_there(self):
        for row in ((0, "p", 7), (4, "p", 7), (10 ** 30, "p", 7), (1, "x", 7), (1, "a", 7), (1, "o", 7), (0, "x", 7)):
            self.assertEqual(self.added([row]), [[0, 0], [1, 2], [0, 0]])
            self.assertEqual(self.added([row, (3, "p", 2), row]), [[0, 0], [1, 2], [2, 0]])

    def test_no_days(self):
        self.assertEqual(self.assert_own(added_losses, DEAL, [], [(1, "p", 7)]), [])

    def test_great_numbers(self):
        self.assertEqual(self.added([(1, "p", 10 ** 30), (1, "p", 10 ** 30)]), [[2 * 10 ** 30, 0], [1, 2], [0, 0]])

    def test_as_many_rows_as_you_like(self):
        self.assertEqual(self.added([(3, "q", 1)] * 1000), [[0, 0], [1, 2], [0, 1000]])


class Compared(Asking, unittest.TestCase):
    def test_without_a_change(self):
        for rows in ([], [(0, "p", 9)], [(1, "x", 9)], [(1, "p", 0)]):
            self.assertEqual(self.assert_own(compared, DEAL, DAYS, rows), [
                ("p", "a", 30, 30, 100, 100), ("p", "b", 60, 60, 19, 19), ("q", "c", 15, 15, 7, 7)])

    def test_with_a_change(self):
        # b is eaten on the second day and then gets its rest alone, so all stays but the sizes.
        self.assertEqual(self.assert_own(compared, DEAL, DAYS, [(2, "p", 29)]), [
            ("p", "a", 30, 30, 100, 90), ("p", "b", 60, 60, 19, 0), ("q", "c", 15, 15, 7, 7)])
        self.assertEqual(self.assert_own(compared, DEAL, DAYS, [(2, "p", 119), (3, "q", 100)]), [
            ("p", "a", 30, 10, 100, 0), ("p", "b", 60, 80, 19, 0), ("q", "c", 15, 15, 7, 0)])

    def test_no_days(self):
        self.assertEqual(self.assert_own(compared, DEAL, [], [(1, "p", 5)]), [
            ("p", "a", 0, 0, 100, 100), ("p", "b", 0, 0, 20, 20), ("q", "c", 0, 0, 9, 9)])

    def test_made_deals(self):
        changed = 0
        for seed in range(100):
            making = Making(seed)
            deal = making.deal()
            days = making.days(deal, 8)
            rows = [(making.random.randint(0, 9), making.random.choice(deal)[0], making.random.randint(0, 40)) for _ in range(6)]
            told = self.assert_own(compared, deal, days, rows)
            self.assert_plain(told)
            self.assertEqual({type(row) for row in told}, {tuple})
            one = claim_rows(deal, days)
            two = claim_rows(deal, added_losses(deal, days, rows))
            self.assertEqual(told, [(*row[:2], sum(row[2:8]), sum(other[2:8]), row[10], other[10])
                                    for row, other in zip(one, two)])
            changed += sum(row[2] != row[3] for row in told)
            pieces = [(day, pool, piece) for day, pool, coins in rows for piece in (coins // 3, coins - coins // 3)]
            self.assertEqual(compared(deal, days, pieces), told)
        self.assertGreater(changed, 20)


if __name__ == "__main__":
    unittest.main()
