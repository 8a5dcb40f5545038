"""Promises [2], [25]: rings of lenders."""

import itertools
import unittest

from tests.helper import Asking, Making
from tranchefall.rings import lend_ring


def deal_of(lends, later=()):
    """Pools that lend as told: pairs (lender, borrower); those of `later` in a second order alone."""
    names = sorted({name for pair in list(lends) + list(later) for name in pair} | {"a"})
    deal = []
    for name in names:
        claim = "c" + name
        orders = [("o", [], [("pay", claim)] + [("lend", two, 5) for one, two in lends if one == name] + [("rest", claim)])]
        more = [("lend", two, 5) for one, two in later if one == name]
        if more:
            orders.append(("w", [(claim, 3)], [("pay", claim)] + more + [("rest", claim)]))
        deal.append((name, [(claim, 5, 1)], [], [], orders, [], []))
    return deal


class Rings(Asking, unittest.TestCase):
    def assert_ring(self, deal, expected=None):
        told = self.assert_own(lend_ring, deal)
        self.assertIs(type(told), list)
        self.assertGreaterEqual(len(told), 2)
        self.assertEqual(len(told), len(set(told)))
        lends = {(pool[0], rule[1]) for pool in deal for order in pool[4] for rule in order[2] if rule[0] == "lend"}
        for pair in zip(told, told[1:] + told[:1]):
            self.assertIn(pair, lends)
        if expected is not None:
            self.assertEqual(set(told), set(expected))

    def assert_none(self, deal):
        self.assertIsNone(self.assert_own(lend_ring, deal))

    def test_no_ring(self):
        self.assert_none(deal_of([]))
        self.assert_none(deal_of(["ab"]))
        self.assert_none(deal_of(["ab", "bc", "ac", "dc", "da"]))
        self.assert_none(deal_of(["ab", "ab", "cb"]))
        self.assert_none(deal_of(["fe", "ed", "dc", "cb", "ba", "fa"]))

    def test_two_pools(self):
        self.assert_ring(deal_of(["ab", "ba"]), "ab")
        self.assert_ring(deal_of(["ac", "bc", "cd", "dc"]), "cd")

    def test_a_longer_ring_that_not_all_belong_to(self):
        self.assert_ring(deal_of(["ab", "bc", "cd", "db", "de", "fa"]), "bcd")
        self.assert_ring(deal_of(["ab", "bc", "cd", "de", "ef", "fa"]), "abcdef")
        self.assert_ring(deal_of(["fe", "ed", "dc", "cb", "ba", "af"]), "abcdef")

    def test_several_rings(self):
        self.assert_ring(deal_of(["ab", "ba", "cd", "dc", "bc"]))
        self.assert_ring(deal_of(["ab", "bc", "ca", "cb"]))

    def test_lends_in_orders_that_are_not_the_first(self):
        self.assert_ring(deal_of(["ab"], ["ba"]), "ab")
        self.assert_ring(deal_of([], ["ab", "bc", "ca"]), "abc")
        self.assert_none(deal_of(["ab"], ["bc"]))

    def test_backs_do_not_count(self):
        deal = deal_of(["ab"])
        deal[1] = ("b", [("cb", 5, 1)], [], [], [("o", [], [("back", "a"), ("rest", "cb")])], [], [])
        self.assert_none(deal)

    def test_all_lends_among_four_pools(self):
        pairs = [one + two for one, two in itertools.permutations("abcd", 2)]
        for bits in range(2 ** len(pairs)):
            lends = [pair for at, pair in enumerate(pairs) if bits >> at & 1]
            left = {"a", "b", "c", "d"}
            while True:
                last = {name for name in left if not any(pair[0] == name and pair[1] in left for pair in lends)}
                if not last:
                    break
                left -= last
            told = lend_ring(deal_of(lends))
            self.assertEqual(told is None, not left)
            if told is not None:
                self.assertTrue(all(one + two in lends for one, two in zip(told, told[1:] + told[:1])))
                self.assertEqual(len(told), len(set(told)))

    def test_own(self):
        for seed in range(100):
            self.assert_own(lend_ring, Making(seed).deal())


if __name__ == "__main__":
    unittest.main()
