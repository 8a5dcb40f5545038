"""Promises [2], [20], [26]: reports."""

import unittest

from tests.helper import Asking, Making, rows_text
from tranchefall.days import begun, ran
from tranchefall.reader import read_deal
from tranchefall.reports import claim_rows, ledger, shown_rows

KINDS = ("part", "pay", "share", "repay", "rest", "guard")

DEAL = read_deal(rows_text(
    "pool p", "claim a 100 10", "claim b 20 5", "claim c 30 6", "claim d 9 2", "pot v 8", "eat d b",
    "order one", "part a 2", "pay a", "fill v", "share b c", "repay b", "lend q 5", "rest d",
    "order two", "pay c", "rest c", "look a 1 two", "guard v a",
    "pool q", "claim e 3 1", "order one", "pay e", "rest e",
))


class ClaimRows(Asking, unittest.TestCase):
    def test_no_days(self):
        self.assertEqual(self.assert_own(claim_rows, DEAL, []), [
            ("p", "a", 0, 0, 0, 0, 0, 0, 0, 0, 100, 0), ("p", "b", 0, 0, 0, 0, 0, 0, 0, 0, 20, 0),
            ("p", "c", 0, 0, 0, 0, 0, 0, 0, 0, 30, 0), ("p", "d", 0, 0, 0, 0, 0, 0, 0, 0, 9, 0),
            ("q", "e", 0, 0, 0, 0, 0, 0, 0, 0, 3, 0),
        ])

    def test_each_kind(self):
        # 60: the part 12, 48 are left: a 10, the pot 8, b 5, c 6, b's size 19 of 20, which is missing one coin.
        days = [([60, 0], [0, 0])]
        self.assertEqual(self.assert_own(claim_rows, DEAL, days), [
            ("p", "a", 12, 10, 0, 0, 0, 0, 0, 0, 100, 0), ("p", "b", 0, 0, 5, 19, 0, 0, 0, 0, 1, 0),
            ("p", "c", 0, 0, 6, 0, 0, 0, 0, 0, 30, 0), ("p", "d", 0, 0, 0, 0, 0, 0, 0, 2, 9, 1),
            ("q", "e", 0, 0, 0, 0, 0, 0, 0, 1, 3, 1),
        ])
        # 100 more: the part 20, a 10, b 5 and c 6, b's size 1, five are lent, 53 are d's rest; e gets 2 and 3.
        days = days + [([100, 0], [0, 0])]
        self.assertEqual(self.assert_own(claim_rows, DEAL, days), [
            ("p", "a", 32, 20, 0, 0, 0, 0, 0, 0, 100, 0), ("p", "b", 0, 0, 10, 20, 0, 0, 0, 0, 0, 0),
            ("p", "c", 0, 0, 12, 0, 0, 0, 0, 0, 30, 0), ("p", "d", 0, 0, 0, 0, 53, 0, 0, 4, 9, 2),
            ("q", "e", 0, 2, 0, 0, 3, 0, 0, 0, 3, 1),
        ])
        # Then nothing but a loss of 10, of which d takes 9; the guard pays a 8, and a is missed.
        days = days + [([0, 0], [10, 4])]
        self.assertEqual(self.assert_own(claim_rows, DEAL, days), [
            ("p", "a", 32, 20, 0, 0, 0, 8, 0, 2, 100, 1), ("p", "b", 0, 0, 10, 20, 0, 0, 0, 0, 0, 0),
            ("p", "c", 0, 0, 12, 0, 0, 0, 0, 6, 30, 1), ("p", "d", 0, 0, 0, 0, 53, 0, 9, 0, 0, 2),
            ("q", "e", 0, 2, 0, 0, 3, 0, 0, 1, 3, 2),
        ])

    def test_kinds_of_what_is_told(self):
        told = claim_rows(DEAL, [([60, 0], [0, 0])])
        self.assertIs(type(told), list)
        self.assertEqual({type(row) for row in told}, {tuple})
        self.assertEqual({len(row) for row in told}, {12})
        self.assert_plain(told)

    def test_made_deals(self):
        for seed in range(150):
            making = Making(seed)
            deal = making.deal()
            days = making.days(deal, making.random.randint(0, 12))
            told = ran(deal, days)
            rows = self.assert_own(claim_rows, deal, days)
            self.assertEqual([row[:2] for row in rows], [(pool[0], claim[0]) for pool in deal for claim in pool[1]])
            books = told[-1][0][0] if told else begun(deal)[0]
            log = [entry for _, entries in told for entry in entries]
            for row in rows:
                book = books[[pool[0] for pool in deal].index(row[0])]
                sums = [sum(entry[6] for entry in log if entry[3:5] == (kind, row[1])) for kind in KINDS + ("eat",)]
                self.assertEqual(list(row[2:9]), sums)
                self.assertEqual(row[9:11], (dict(book[1])[row[1]], dict(book[0])[row[1]]))
                missed = sum(dict(one[2]).get(row[1], 0) > 0 for state, _ in told for one in state[0])
                self.assertEqual(row[11], missed)

    def test_great_numbers(self):
        great = 10 ** 30
        rows = claim_rows(DEAL, [([great, great], [great, great])] * 2)
        self.assertEqual(rows[0][2], 2 * (great // 5))


class ShownRows(Asking, unittest.TestCase):
    def test_sign_by_sign(self):
        rows = [("p", "a", 12, 10, 0, 0, 0, 0, 0, 0, 100, 0), ("q", "long", 0, 0, 5, 19, 0, 0, 0, 0, 10 ** 30, 7)]
        self.assertEqual(self.assert_own(shown_rows, rows),
                         "p a 12 10 0 0 0 0 0 0 100 0\nq long 0 0 5 19 0 0 0 0 1000000000000000000000000000000 7")
        self.assertEqual(shown_rows(rows[:1]), "p a 12 10 0 0 0 0 0 0 100 0")

    def test_no_rows(self):
        self.assertEqual(shown_rows([]), "")

    def test_of_claim_rows(self):
        self.assertEqual(shown_rows(claim_rows(DEAL, [([60, 0], [0, 0])])), (
            "p a 12 10 0 0 0 0 0 0 100 0\np b 0 0 5 19 0 0 0 0 1 0\np c 0 0 6 0 0 0 0 0 30 0\n"
            "p d 0 0 0 0 0 0 0 2 9 1\nq e 0 0 0 0 0 0 0 1 3 1"
        ))


class Ledger(Asking, unittest.TestCase):
    def test_no_days(self):
        self.assertEqual(self.assert_own(ledger, DEAL, []), (0, 0, 0, 0, 0))

    def test_days(self):
        days = [([60, 0], [0, 0]), ([100, 0], [0, 0]), ([0, 0], [10, 4])]
        self.assertEqual(self.assert_own(ledger, DEAL, days[:1]), (60, 52, 8, 0, 0))
        self.assertEqual(self.assert_own(ledger, DEAL, days[:2]), (160, 152, 8, 0, 0))
        self.assertEqual(self.assert_own(ledger, DEAL, days), (160, 160, 0, 0, 5))

    def test_coins_that_wait(self):
        deal = read_deal(rows_text("pool p", "claim a 9 1", "order o", "rest a",
                                   "pool q", "claim b 9 2", "order o", "pay b", "lend p 7", "rest b"))
        self.assertEqual(ledger(deal, [([0, 6], [0, 0])]), (6, 2, 0, 4, 0))
        self.assertEqual(ledger(deal, [([0, 6], [0, 0]), ([0, 0], [0, 3])]), (6, 6, 0, 0, 3))

    def test_made_deals(self):
        waiting = kept = 0
        for seed in range(200):
            making = Making(seed)
            deal = making.deal()
            days = making.days(deal, making.random.randint(0, 12))
            told = self.assert_own(ledger, deal, days)
            self.assertIs(type(told), tuple)
            self.assert_plain(told)
            books, _, waits = ran(deal, days)[-1][0] if days else begun(deal)
            self.assertEqual(told[0], sum(sum(incomes) for incomes, _ in days))
            self.assertEqual(told[0], told[1] + told[2] + told[3])
            self.assertEqual(told[1], sum(sum(row[2:8]) for row in claim_rows(deal, days)))
            self.assertEqual(told[2:], (sum(level for book in books for _, level in book[3]), sum(waits),
                                        sum(book[4] for book in books)))
            waiting += told[3]
            kept += told[2]
        self.assertTrue(waiting and kept)


if __name__ == "__main__":
    unittest.main()
