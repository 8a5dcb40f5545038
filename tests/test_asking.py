"""Promises [2], [3], [28]: what is asked of texts."""

import unittest

from tests.helper import Asking, Making, rows_text
from tranchefall.asking import claims_told, days_of, what_if, words_on
from tranchefall.debtreader import read_debts
from tranchefall.dues import by_pool, told_days
from tranchefall.errors import BadRow, Misplaced, NoName, TooMany, Twice, Unfinished, Unguarded
from tranchefall.reaching import never, twice_word
from tranchefall.reader import read_deal
from tranchefall.reports import claim_rows, shown_rows
from tranchefall.rings import lend_ring
from tranchefall.showing import shown_deal
from tranchefall.whatif import compared

DEAL = rows_text(
    "pool p", "claim a 100 10", "claim b 20 5", "eat b a", "order o", "pay a", "pay b", "rest b",
    "pool q", "claim c 9 3", "eat c", "order o", "pay c", "rest c",
)
DEBTS = rows_text(
    "debt ann p", "on 1 30", "on 2 10", "on 3 50",
    "debt bob q", "on 2 4",
    "debt cid p", "on 1 3", "on 4 25",
    "debt dan elsewhr", "on 1 99",
    "quit cid 3", "late ann 2 1",
)
DAYS = [([33, 0], [0, 0]), ([0, 4], [0, 0]), ([60, 0], [25, 0])]


class DaysOf(Asking, unittest.TestCase):
    def test_days(self):
        self.assertEqual(self.assert_own(days_of, DEAL, DEBTS, 3), DAYS)
        self.assertEqual(self.assert_own(days_of, DEAL, DEBTS, 5), DAYS + [([0, 0], [0, 0])] * 2)
        self.assertEqual(self.assert_own(days_of, DEAL, DEBTS, 2), DAYS[:2])

    def test_no_days_and_no_debts(self):
        self.assertEqual(self.assert_own(days_of, DEAL, DEBTS, 0), [])
        self.assertEqual(self.assert_own(days_of, DEAL, "", 2), [([0, 0], [0, 0])] * 2)
        self.assertEqual(self.assert_own(days_of, DEAL, "\n \n", 1), [([0, 0], [0, 0])])

    def test_as_the_functions_below_it(self):
        debts, events = read_debts(DEBTS)
        for many in (0, 1, 4, 60, 120):
            self.assertEqual(days_of(DEAL, DEBTS, many), by_pool(debts, told_days(debts, events, many)[0], ["p", "q"]))


class ClaimsTold(Asking, unittest.TestCase):
    def test_sign_by_sign(self):
        # On day 3 b is eaten with 20, a with 5; a is owed 20 then, and all the rest goes to b.
        self.assertEqual(self.assert_own(claims_told, DEAL, DEBTS, 3), (
            "p a 0 30 0 0 0 0 5 0 95 1\n"
            "p b 0 5 0 0 58 0 20 0 0 1\n"
            "q c 0 4 0 0 0 0 0 5 9 3"
        ))

    def test_no_days(self):
        self.assertEqual(claims_told(DEAL, DEBTS, 0), (
            "p a 0 0 0 0 0 0 0 0 100 0\np b 0 0 0 0 0 0 0 0 20 0\nq c 0 0 0 0 0 0 0 0 9 0"))

    def test_as_the_functions_below_it(self):
        for many in (1, 4, 60):
            self.assertEqual(claims_told(DEAL, DEBTS, many),
                             shown_rows(claim_rows(read_deal(DEAL), days_of(DEAL, DEBTS, many))))


class WhatIf(Asking, unittest.TestCase):
    def test_sign_by_sign(self):
        self.assertEqual(self.assert_own(what_if, DEAL, DEBTS, 3, []), "p a 30 30 95 95\np b 63 63 0 0\nq c 4 4 9 9")
        self.assertEqual(self.assert_own(what_if, DEAL, DEBTS, 3, [(2, "p", 120), (1, "q", 2), (2, "q", 3), (9, "q", 9)]),
                         "p a 30 10 95 0\np b 63 83 0 0\nq c 4 4 9 4")

    def test_no_days(self):
        self.assertEqual(what_if(DEAL, DEBTS, 0, [(1, "p", 1)]), "p a 0 0 100 100\np b 0 0 20 20\nq c 0 0 9 9")

    def test_as_the_functions_below_it(self):
        for many in (1, 4, 60):
            rows = [(1, "p", 3), (4, "q", 8), (0, "p", 5)]
            told = compared(read_deal(DEAL), days_of(DEAL, DEBTS, many), rows)
            self.assertEqual(what_if(DEAL, DEBTS, many, rows), "\n".join(" ".join(map(str, row)) for row in told))


class WordsOn(Asking, unittest.TestCase):
    def test_once_and_no_ring(self):
        self.assertEqual(self.assert_own(words_on, DEAL), "once p\nonce q\nno ring")

    def test_never(self):
        text = rows_text(
            "pool p", "claim a 5 1", "order o", "part a 2", "pay a", "pay a", "lend q 4", "rest a",
            "order w", "back q", "rest a",
            "pool q", "claim b 5 1", "order x", "part b 10", "rest b",
        )
        self.assertEqual(self.assert_own(words_on, text),
                         "once p\nnever p o 2\nnever p w 1\nonce q\nnever q x 1\nno ring")

    def test_twice_and_ring(self):
        text = rows_text(
            "pool p", "claim a 5 1", "claim b 5 1", "order o", "pay a", "lend q 4", "rest a",
            "order w", "part a 9", "part b 5", "lend q 4", "pay b", "rest a", "look a 2 w",
            "pool q", "claim c 5 1", "order o", "lend p 9", "rest c",
        )
        rows = self.assert_own(words_on, text).split("\n")
        days = twice_word(read_deal(text)[0])[1]
        self.assertGreaterEqual(len(days), 3)
        self.assertEqual(rows[0], "twice p " + " ".join(f"{income} {loss}" for income, loss in days))
        self.assertEqual(rows[1:4], ["never p w 3", "never p w 4", "once q"])
        self.assertIn(rows[4:], (["ring p q"], ["ring q p"]))

    def test_made_deals(self):
        seen = set()
        for seed in range(150):
            deal = Making(seed).deal()
            rows = []
            for pool in deal:
                word, told = twice_word(pool)
                words = ["once", pool[0]] if word == "never" else ["twice", pool[0]] + [str(one) for day in told for one in day]
                rows.append(" ".join(words))
                rows += [f"never {pool[0]} {order} {place}" for order, place in never(pool)]
            ring = lend_ring(deal)
            rows.append("no ring" if ring is None else "ring " + " ".join(ring))
            told = words_on(shown_deal(deal))
            self.assertEqual(told, "\n".join(rows))
            seen |= {row.split()[0] for row in rows}
        self.assertEqual(seen, {"once", "twice", "never", "ring", "no"})


class Refusals(Asking, unittest.TestCase):
    def asked(self):
        yield days_of, (3,)
        yield claims_told, (3,)
        yield what_if, (3, [])
        yield days_of, (0,)

    def test_the_deals_text_first(self):
        for refusal, place, text in (
            (BadRow, 2, "pool p\nclaim a 0 1"), (Misplaced, 1, "claim a 1 1"), (Unfinished, 1, ""),
            (Unfinished, 3, "pool p\nclaim a 1 1\n"), (Twice, 2, "pool p\nclaim p 1 1"), (NoName, 4, "pool p\nclaim a 1 1\norder o\npay b"),
            (NoName, 4, "pool p\nclaim a 1 1\norder o\nlend q 1\nrest a"),
            (Unguarded, 7, "pool p\nclaim a 1 1\npot v 1\norder o\nrepay a\nrest a\nguard v a"),
            (TooMany, 9, "pool p\nclaim a 1 1\norder o\nrest a" + "\nlook a 1 o" * 5),
        ):
            self.assert_refused(refusal, place, words_on, text)
            for function, more in self.asked():
                for debts in (DEBTS, "", "what", "on 1 1"):
                    self.assert_refused(refusal, place, function, text, debts, *more)

    def test_the_debts_text(self):
        for refusal, place, text in (
            (BadRow, 3, "\n\nwhat"), (Misplaced, 1, "on 1 1"), (Unfinished, 2, "debt a p\n"), (NoName, 1, "quit a 1"),
            (Twice, 3, "debt a p\non 5 1\non 5 1"), (TooMany, 63, "debt a p\non 5 1" + "\nquit a 1" * 61),
        ):
            for function, more in self.asked():
                self.assert_refused(refusal, place, function, DEAL, text, *more)


if __name__ == "__main__":
    unittest.main()
