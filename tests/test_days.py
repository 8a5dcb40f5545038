"""Promises [2], [13], [18] to [20]: the days of a deal and of a pool alone."""

import unittest

from tests.helper import Asking, Making, rows_text
from tranchefall.days import begun, day_done, order_now, ran, ran_alone
from tranchefall.falling import fell
from tranchefall.losing import eaten
from tranchefall.reader import read_deal

CLAIM_KINDS = ("part", "pay", "share", "repay", "rest", "guard")

LOOKS = read_deal(rows_text(
    "pool p", "claim a 100 10", "claim b 50 5", "eat b", "order one", "pay a", "pay b", "rest b",
    "order two", "pay b", "rest a", "order three", "rest a",
    "look a 3 three", "look b 2 two", "look a 1 three",
))[0]

LENDERS = read_deal(rows_text(
    "pool p", "claim a 100 10", "order o", "pay a", "lend q 20", "back q", "rest a",
    "pool q", "claim b 50 5", "pot v 9", "order o", "pay b", "fill v", "back p", "lend p 6", "rest b",
))


def book_of(pool, runs):
    return ([(claim, size) for claim, size, _ in pool[1]], [(claim, 0) for claim, _, _ in pool[1]],
            [(claim, runs.get(claim, 0)) for claim, _, _ in pool[1]], [(pot, 0) for pot, _ in pool[2]], 0)


def day_by_pieces(deal, state, incomes, losses):
    """A day done by the told functions of one pool, with loans and waiting coins in dicts."""
    books, loans, waiting = state
    names = [pool[0] for pool in deal]
    owed_by = {(one, two): coins for one, two, coins in loans}
    waits = dict(zip(names, waiting))
    behind, log = [], []
    for pool, book, income, loss in zip(deal, books, incomes, losses):
        entries, after = eaten(pool, book, loss)
        log += [(pool[0], "", *entry) for entry in entries]
        dues = {claim: due for claim, size, due in pool[1] if dict(after[0])[claim]}
        after = (after[0], [(claim, coins + dues.get(claim, 0)) for claim, coins in after[1]], *after[2:])
        order = order_now(pool, book)
        now = sorted((one, two, coins) for (one, two), coins in owed_by.items() if coins)
        entries, after, moves = fell(pool, order, after, income + waits[pool[0]], now)
        log += [(pool[0], order, *entry) for entry in entries]
        waits[pool[0]] = 0
        behind.append(after)
        for kind, other, coins in moves:
            key = (pool[0], other) if kind == "lend" else (other, pool[0])
            owed_by[key] = owed_by.get(key, 0) + (coins if kind == "lend" else -coins)
            waits[other] += coins
    now = sorted((one, two, coins) for (one, two), coins in owed_by.items() if coins)
    return (behind, now, [waits[name] for name in names]), log


class Begun(Asking, unittest.TestCase):
    def test_sizes_as_told_and_all_else_nought(self):
        told = self.assert_own(begun, LENDERS)
        self.assertEqual(told, (
            [([("a", 100)], [("a", 0)], [("a", 0)], [], 0), ([("b", 50)], [("b", 0)], [("b", 0)], [("v", 0)], 0)],
            [], [0, 0],
        ))
        self.assertEqual([type(one) for one in told], [list] * 3)
        self.assertEqual([type(one) for one in told[0]], [tuple] * 2)

    def test_claims_and_pots_in_the_order_of_the_text(self):
        for seed in range(50):
            deal = Making(seed).deal()
            books = self.assert_own(begun, deal)[0]
            for pool, book in zip(deal, books):
                self.assertEqual(book[0], [claim[:2] for claim in pool[1]])
                self.assertEqual([pot for pot, _ in book[3]], [pot for pot, _ in pool[2]])


class OrderNow(Asking, unittest.TestCase):
    def test_the_first_look_that_holds(self):
        for runs, order in (
            ({}, "one"), ({"b": 1}, "one"), ({"b": 2}, "two"), ({"b": 9}, "two"), ({"a": 1}, "three"),
            ({"a": 1, "b": 2}, "two"), ({"a": 2, "b": 2}, "two"), ({"a": 3, "b": 2}, "three"), ({"a": 2, "b": 1}, "three"),
        ):
            self.assertEqual(self.assert_own(order_now, LOOKS, book_of(LOOKS, runs)), order)

    def test_no_looks(self):
        self.assertEqual(order_now(LENDERS[0], book_of(LENDERS[0], {"a": 99})), "o")

    def test_the_size_does_not_matter(self):
        book = book_of(LOOKS, {"b": 2})
        book = ([("a", 0), ("b", 0)], *book[1:])
        self.assertEqual(order_now(LOOKS, book), "two")


class OnePool(Asking, unittest.TestCase):
    def test_dues_come_ahead_of_the_fall_and_losses_ahead_of_dues(self):
        told = self.assert_own(ran_alone, LOOKS, [(15, 0), (15, 50), (0, 0)])
        self.assertEqual(told[0], (
            ([("a", 100), ("b", 50)], [("a", 0), ("b", 0)], [("a", 0), ("b", 0)], [], 0), [],
            [("p", "", 0, "eat", "b", 0, 0), ("p", "one", 0, "pay", "a", 10, 10), ("p", "one", 1, "pay", "b", 5, 5),
             ("p", "one", 2, "rest", "b", 0, 0)],
        ))
        self.assertEqual(told[1], (
            ([("a", 100), ("b", 0)], [("a", 0), ("b", 0)], [("a", 0), ("b", 0)], [], 0), [],
            [("p", "", 0, "eat", "b", 50, 50), ("p", "one", 0, "pay", "a", 10, 10), ("p", "one", 1, "pay", "b", 0, 0),
             ("p", "one", 2, "rest", "b", 5, 5)],
        ))
        self.assertEqual(told[2][0][1], [("a", 10), ("b", 0)])

    def test_a_claim_that_is_eaten_is_owed_no_more(self):
        told = ran_alone(LOOKS, [(0, 0), (0, 50)])
        self.assertEqual(told[0][0][1], [("a", 10), ("b", 5)])
        self.assertEqual(told[1][0][1], [("a", 20), ("b", 0)])

    def test_a_loss_of_a_part_takes_nothing_of_what_is_owed(self):
        told = ran_alone(LOOKS, [(0, 0), (0, 49)])
        self.assertEqual(told[1][0][:2], ([("a", 100), ("b", 1)], [("a", 20), ("b", 10)]))

    def test_looks_turn_the_order_by_the_evening_before(self):
        orders = [log[-1][1] for _, _, log in ran_alone(LOOKS, [(10, 0)] * 5)]
        # b is missed on three days, and served on the fourth by the order that it turned to; a is missed meanwhile.
        self.assertEqual(orders, ["one", "one", "two", "two", "three"])
        runs = [book[2] for book, _, _ in ran_alone(LOOKS, [(10, 0), (10, 0), (15, 0), (0, 0)])]
        self.assertEqual(runs, [[("a", 0), ("b", 1)], [("a", 0), ("b", 2)], [("a", 1), ("b", 0)], [("a", 2), ("b", 1)]])

    def test_the_days_of_a_claim_that_todays_loss_has_eaten_still_count(self):
        told = ran_alone(LOOKS, [(10, 0), (10, 0), (10, 50), (0, 0)])
        self.assertEqual([log[-1][1] for _, _, log in told], ["one", "one", "two", "three"])
        self.assertEqual(told[2][0][2], [("a", 1), ("b", 0)])

    def test_losses_that_no_claim_took(self):
        told = ran_alone(LOOKS, [(0, 60), (0, 7)])
        self.assertEqual([book[4] for book, _, _ in told], [10, 17])

    def test_no_days(self):
        self.assertEqual(self.assert_own(ran_alone, LOOKS, []), [])
        self.assertEqual(self.assert_own(ran, LENDERS, []), [])

    def test_what_is_lent_is_gone(self):
        told = self.assert_own(ran_alone, LENDERS[0], [(25, 0), (25, 0), (25, 0)])
        self.assertEqual([loans for _, loans, _ in told], [[("p", "q", 15)], [("p", "q", 20)], [("p", "q", 20)]])
        self.assertEqual([log[-1] for _, _, log in told], [
            ("p", "o", 3, "rest", "a", 0, 0), ("p", "o", 3, "rest", "a", 10, 10), ("p", "o", 3, "rest", "a", 15, 15)])
        self.assertEqual(type(told[0]), tuple)


class Pools(Asking, unittest.TestCase):
    def test_to_a_pool_behind_on_the_same_day_and_to_one_ahead_on_the_next(self):
        first, second, third = self.assert_own(ran, LENDERS, [([30, 0], [0, 0]), ([0, 0], [0, 0]), ([0, 0], [3, 4])])
        # p pays 10 and lends 20 to q, which pays 5, fills 9 and gives 6 back.
        self.assertEqual(first, (
            ([([("a", 100)], [("a", 0)], [("a", 0)], [], 0), ([("b", 50)], [("b", 0)], [("b", 0)], [("v", 9)], 0)],
             [("p", "q", 14)], [6, 0]),
            [("p", "o", 0, "pay", "a", 10, 10), ("p", "o", 1, "lend", "q", 20, 20), ("p", "o", 2, "back", "q", 0, 0),
             ("p", "o", 3, "rest", "a", 0, 0), ("q", "o", 0, "pay", "b", 5, 5), ("q", "o", 1, "fill", "v", 9, 9),
             ("q", "o", 2, "back", "p", 20, 6), ("q", "o", 3, "lend", "p", 6, 0), ("q", "o", 4, "rest", "b", 0, 0)],
        ))
        self.assertEqual(second[0], (
            [([("a", 100)], [("a", 4)], [("a", 1)], [], 0), ([("b", 50)], [("b", 5)], [("b", 1)], [("v", 9)], 0)],
            [("p", "q", 14)], [0, 0],
        ))
        self.assertEqual(third[0][0][0], ([("a", 100)], [("a", 14)], [("a", 2)], [], 3))
        self.assertEqual(third[0][0][1], ([("b", 50)], [("b", 10)], [("b", 2)], [("v", 9)], 4))

    def test_a_loan_that_is_given_back_is_none_any_more(self):
        told = ran(LENDERS, [([30, 0], [0, 0]), ([0, 14 + 5], [0, 0]), ([0, 0], [0, 0])])
        self.assertEqual([state[1] for state, _ in told], [[("p", "q", 14)], [], []])
        self.assertEqual([state[2] for state, _ in told], [[6, 0], [14, 0], [0, 0]])

    def test_loans_both_ways_are_sorted(self):
        told = ran(LENDERS, [([15, 30], [0, 0])])
        # q gives the 5 back, which p lent that day, and lends 6.
        self.assertEqual(told[0][0][1:], ([("q", "p", 6)], [11, 0]))
        # Of 12 coins p pays 10 and lends 2, which q pays to b.
        told = ran(LENDERS, [([15, 30], [0, 0]), ([1, 0], [0, 0])])
        self.assertEqual(told[1][0][1:], ([("p", "q", 2), ("q", "p", 6)], [0, 0]))

    def test_day_done_from_a_state(self):
        state = ([([("a", 7)], [("a", 3)], [("a", 2)], [], 1), ([("b", 0)], [("b", 0)], [("b", 4)], [("v", 9)], 0)],
                 [("q", "p", 8)], [5, 2])
        told = self.assert_own(day_done, LENDERS, state, [30, 1], [2, 6])
        (books, loans, waiting), log = told
        self.assertEqual(log[:4], [
            ("p", "o", 0, "pay", "a", 13, 13), ("p", "o", 1, "lend", "q", 20, 20), ("p", "o", 2, "back", "q", 8, 2),
            ("p", "o", 3, "rest", "a", 0, 0)])
        # q has 2 that waited, 1 of income and 22 of p's: 20 it gives back; p still owes it 6, so it lends no more.
        self.assertEqual(log[4:], [
            ("q", "o", 0, "pay", "b", 0, 0), ("q", "o", 1, "fill", "v", 0, 0), ("q", "o", 2, "back", "p", 20, 20),
            ("q", "o", 3, "lend", "p", 0, 0), ("q", "o", 4, "rest", "b", 5, 5)])
        self.assertEqual(loans, [("q", "p", 6)])
        self.assertEqual(waiting, [20, 0])
        self.assertEqual(books, [([("a", 7)], [("a", 0)], [("a", 0)], [], 3),
                                 ([("b", 0)], [("b", 0)], [("b", 0)], [("v", 9)], 6)])

    def test_great_numbers(self):
        great = 10 ** 30
        told = self.assert_own(ran, LENDERS, [([great, great], [great, great])] * 3)
        self.assertEqual(told[-1][0][0][0][4], 3 * great)

    def test_told_states_may_be_handed_in_again(self):
        days = Making(3).days(LENDERS, 6)
        told = ran(LENDERS, days)
        state = begun(LENDERS)
        for (incomes, losses), one in zip(days, told):
            state, log = day_done(LENDERS, state, incomes, losses)
            self.assertEqual((state, log), one)


class MadeDeals(Asking, unittest.TestCase):
    def made(self):
        for seed in range(250):
            making = Making(seed)
            deal = making.deal()
            yield deal, making.days(deal, making.random.randint(0, 12))

    def test_each_day_as_told_by_the_functions_of_one_pool(self):
        for deal, days in self.made():
            state = begun(deal)
            told = ran(deal, days)
            self.assertEqual(len(told), len(days))
            for (incomes, losses), one in zip(days, told):
                expected = day_by_pieces(deal, state, incomes, losses)
                self.assertEqual(one, expected)
                state = expected[0]

    def test_one_pool_alone_as_in_a_deal_of_its_own(self):
        for seed in range(100):
            making = Making(seed)
            deal = making.deal(1)
            days = making.days(deal, 8)
            alone = self.assert_own(ran_alone, deal[0], [(incomes[0], losses[0]) for incomes, losses in days])
            self.assertEqual([(book, loans, log) for book, loans, log in alone],
                             [(books[0], loans, log) for (books, loans, _), log in ran(deal, days)])

    def test_own(self):
        for deal, days in list(self.made())[:60]:
            self.assert_own(ran, deal, days)
            state = ran(deal, days)[-1][0] if days else begun(deal)
            self.assert_own(day_done, deal, state, [7] * len(deal), [3] * len(deal))

    def test_no_coin_is_lost_and_none_is_made(self):
        for deal, days in self.made():
            came = paid = 0
            for (incomes, _), ((books, loans, waiting), log) in zip(days, ran(deal, days)):
                came += sum(incomes)
                paid += sum(entry[6] for entry in log if entry[3] in CLAIM_KINDS)
                kept = sum(level for book in books for _, level in book[3])
                self.assertEqual(came, paid + kept + sum(waiting))

    def test_no_lend_brings_a_loan_above_its_most(self):
        lent = 0
        for deal, days in self.made():
            loans_ahead = {}
            for (books, loans, waiting), log in ran(deal, days):
                now = dict(loans_ahead)
                for name, order, place, kind, other, need, got in log:
                    if kind == "lend":
                        rows = [one for pool in deal if pool[0] == name for one in pool[4] if one[0] == order][0]
                        now[name, other] = now.get((name, other), 0) + got
                        if got:
                            lent += 1
                            self.assertLessEqual(now[name, other], rows[2][place - len(rows[1])][2])
                    elif kind == "back":
                        now[other, name] = now.get((other, name), 0) - got
                self.assertEqual({ends: coins for ends, coins in now.items() if coins}, {one[:2]: one[2] for one in loans})
                self.assertEqual(loans, sorted(loans))
                self.assertTrue(all(coins > 0 for _, _, coins in loans))
                loans_ahead = now
        self.assertGreater(lent, 100)


if __name__ == "__main__":
    unittest.main()
