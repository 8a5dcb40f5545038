"""Promises [2], [13], [16], [17], and of [20] what it says of one fall."""

import random
import unittest

from tests.helper import Asking, Making
from tranchefall.falling import fell
from tranchefall.parts import asked
from tranchefall.sharing import shared


def pool_of(rules, parts=(), pots=(("v", 20),), guards=(), claims="abc"):
    return ("p", [(claim, 100, 10) for claim in claims], list(pots), [],
            [("other", [], [("rest", "a")]), ("o", list(parts), list(rules))], [], list(guards))


def book_of(owed, sizes=None, runs=None, levels=(("v", 0),), lost=0):
    sizes = {} if sizes is None else sizes
    runs = {} if runs is None else runs
    return ([(claim, sizes.get(claim, 100)) for claim in owed], list(owed.items()),
            [(claim, runs.get(claim, 0)) for claim in owed], list(levels), lost)


OWED = {"a": 10, "b": 20, "c": 30}
REST = ("rest", "c")


def fell_coin_by_coin(pool, order, book, came, loans):
    """The same fall, with each coin given by itself and all amounts in one dict."""
    name, _, pots, _, orders, _, guards = pool
    sizes, owed, runs, levels, lost = book
    have = {("size", one): coins for one, coins in sizes}
    have.update({("owed", one): coins for one, coins in owed})
    have.update({("level", one): coins for one, coins in levels})
    have.update({("loan", one[0], one[1]): one[2] for one in loans})
    parts, rules = [one for one in orders if one[0] == order][0][1:]
    asks, over = asked(parts, came)
    entries, moves, served, cash = [], [], set(), came
    for place, (claim, _) in enumerate(parts):
        got = 0
        while got < asks[place] and cash > 0:
            got, cash = got + 1, cash - 1
        entries.append((place, "part", claim, asks[place], got))
    if over:
        entries.append((-1, "twice", "", came + over, came))
    for place, rule in enumerate(rules, len(parts)):
        kind = rule[0]
        if kind == "share":
            needs = [have["owed", claim] for claim in rule[1]]
            gets = shared(needs, cash)
            for claim, need, got in zip(rule[1], needs, gets):
                entries.append((place, kind, claim, need, got))
                have["owed", claim] -= got
                cash -= got
                if needs == gets and any(needs):
                    served.add(claim)
            continue
        keys = {"pay": [("owed", rule[1], -1)], "repay": [("owed", rule[1], -1), ("size", rule[1], -1)],
                "fill": [("level", rule[1], 1)], "lend": [("loan", name, rule[1], 1)],
                "back": [("loan", rule[1], name, -1)], "rest": []}[kind]
        tops = {"fill": dict(pots).get(rule[1]), "lend": rule[-1]}
        need = got = 0
        for key in keys:
            now = have.get(key[:-1], 0)
            need += max(tops[kind] - now, 0) if key[-1] == 1 else now
        need = cash if kind == "rest" else need
        while got < need and cash > 0:
            got, cash = got + 1, cash - 1
            for key in keys:
                if key[-1] == 1 or have.get(key[:-1], 0) > 0:
                    have[key[:-1]] = have.get(key[:-1], 0) + key[-1]
                    break
        entries.append((place, kind, rule[1], need, got))
        if kind in ("lend", "back") and got:
            moves.append((kind, rule[1], got))
        if kind in ("pay", "repay") and need and got == need:
            served.add(rule[1])
    for place, (pot, claim) in enumerate(guards):
        need, got = have["owed", claim], 0
        while have["owed", claim] and have["level", pot]:
            have["owed", claim] -= 1
            have["level", pot] -= 1
            got += 1
        entries.append((place, "guard", claim, need, got))
    missed = {claim for claim, size in sizes if size and claim not in served}
    return entries, (
        [(one, have["size", one]) for one, _ in sizes], [(one, have["owed", one]) for one, _ in owed],
        [(one, days + 1 if one in missed else 0) for one, days in runs],
        [(one, have["level", one]) for one, _ in levels], lost,
    ), moves


class Falling(Asking, unittest.TestCase):
    def fall(self, rules, came, owed=None, loans=(), parts=(), pots=(("v", 20),), guards=(), **book):
        pool = pool_of(list(rules) + [REST], parts, pots, guards)
        given = book_of(OWED if owed is None else owed, **book)
        told = self.assert_own(fell, pool, "o", given, came, list(loans))
        self.assertIs(type(told), tuple)
        self.assertEqual([type(one) for one in told], [list, tuple, list])
        self.assertEqual([type(one) for one in told[1]], [list] * 4 + [int])
        self.assert_plain(told)
        self.assertEqual(told, fell_coin_by_coin(pool, "o", given, came, list(loans)))
        return told


class Parts(Falling):
    def test_below_ten_together(self):
        entries, book, moves = self.fall([("pay", "a")], 100, parts=[("b", 3), ("a", 2)])
        self.assertEqual(entries, [(0, "part", "b", 30, 30), (1, "part", "a", 20, 20), (2, "pay", "a", 10, 10),
                                   (3, "rest", "c", 40, 40)])
        self.assertEqual(book[1], [("a", 0), ("b", 20), ("c", 30)])
        self.assertEqual(book[0], [("a", 100), ("b", 100), ("c", 100)])

    def test_odd_coins(self):
        entries = self.fall([], 5, parts=[("b", 3), ("a", 3)])[0]
        self.assertEqual(entries, [(0, "part", "b", 2, 2), (1, "part", "a", 1, 1), (2, "rest", "c", 2, 2)])

    def test_just_ten_together(self):
        entries = self.fall([("pay", "a")], 7, parts=[("b", 5), ("a", 5)])[0]
        self.assertEqual(entries, [(0, "part", "b", 4, 4), (1, "part", "a", 3, 3), (2, "pay", "a", 10, 0),
                                   (3, "rest", "c", 0, 0)])

    def test_twice(self):
        entries = self.fall([("pay", "a")], 11, parts=[("b", 6), ("a", 5)])[0]
        self.assertEqual(entries, [(0, "part", "b", 7, 7), (1, "part", "a", 6, 4), (-1, "twice", "", 13, 11),
                                   (2, "pay", "a", 10, 0), (3, "rest", "c", 0, 0)])

    def test_twice_with_a_part_that_gets_nothing(self):
        entries = self.fall([], 10, parts=[("b", 10), ("a", 10), ("c", 1)])[0]
        self.assertEqual(entries, [(0, "part", "b", 10, 10), (1, "part", "a", 10, 0), (2, "part", "c", 1, 0),
                                   (-1, "twice", "", 21, 10), (3, "rest", "c", 0, 0)])

    def test_not_twice_where_nothing_came(self):
        entries = self.fall([], 0, parts=[("b", 10), ("a", 10)])[0]
        self.assertEqual(entries, [(0, "part", "b", 0, 0), (1, "part", "a", 0, 0), (2, "rest", "c", 0, 0)])

    def test_a_claim_without_size_gets_a_part_and_a_rest(self):
        entries, book, _ = self.fall([], 10, {"a": 0, "b": 0, "c": 0}, parts=[("a", 3)], sizes={"a": 0, "c": 0})
        self.assertEqual(entries, [(0, "part", "a", 3, 3), (1, "rest", "c", 7, 7)])
        self.assertEqual(book[0], [("a", 0), ("b", 100), ("c", 0)])
        self.assertEqual(book[1], [("a", 0), ("b", 0), ("c", 0)])


class Rules(Falling):
    def test_pay(self):
        for came, got, rest in ((0, 0, 0), (9, 9, 0), (10, 10, 0), (11, 10, 1)):
            entries, book, moves = self.fall([("pay", "a")], came)
            self.assertEqual(entries, [(0, "pay", "a", 10, got), (1, "rest", "c", rest, rest)])
            self.assertEqual(book[1], [("a", 10 - got), ("b", 20), ("c", 30)])
            self.assertEqual(moves, [])

    def test_rules_are_filled_one_behind_the_other(self):
        entries = self.fall([("pay", "b"), ("pay", "a"), ("fill", "v")], 25)[0]
        self.assertEqual(entries, [(0, "pay", "b", 20, 20), (1, "pay", "a", 10, 5), (2, "fill", "v", 20, 0),
                                   (3, "rest", "c", 0, 0)])

    def test_needs_go_by_what_the_rows_ahead_have_left(self):
        entries, book, _ = self.fall([("pay", "a"), ("pay", "a"), ("repay", "a"), ("pay", "a"), ("repay", "a")], 300)
        self.assertEqual([one[3:] for one in entries], [(10, 10), (0, 0), (100, 100), (0, 0), (0, 0), (190, 190)])
        self.assertEqual(book[0][0], ("a", 0))
        entries = self.fall([("fill", "v"), ("fill", "v"), ("share", ("a", "b")), ("pay", "b")], 45)[0]
        self.assertEqual([one[3:] for one in entries], [(20, 20), (0, 0), (10, 9), (20, 16), (4, 0), (0, 0)])

    def test_share_filled(self):
        entries, book, _ = self.fall([("share", ("c", "a"))], 50)
        self.assertEqual(entries, [(0, "share", "c", 30, 30), (0, "share", "a", 10, 10), (1, "rest", "c", 10, 10)])
        self.assertEqual(book[1], [("a", 0), ("b", 20), ("c", 0)])
        self.assertEqual(book[2], [("a", 0), ("b", 1), ("c", 0)])

    def test_share_not_filled(self):
        entries, book, _ = self.fall([("share", ("c", "a", "b"))], 59, parts=[("a", 1)])
        self.assertEqual(entries, [(0, "part", "a", 5, 5), (1, "share", "c", 30, 27), (1, "share", "a", 10, 9),
                                   (1, "share", "b", 20, 18), (2, "rest", "c", 0, 0)])
        self.assertEqual(book[1], [("a", 1), ("b", 2), ("c", 3)])
        self.assertEqual(book[2], [("a", 1), ("b", 1), ("c", 1)])

    def test_share_with_odd_coins_and_a_need_of_nought(self):
        entries = self.fall([("share", ("b", "a", "c"))], 3, {"a": 1, "b": 0, "c": 3})[0]
        self.assertEqual(entries[:3], [(0, "share", "b", 0, 0), (0, "share", "a", 1, 1), (0, "share", "c", 3, 2)])

    def test_repay(self):
        for came, owed, size in ((0, 10, 100), (9, 1, 100), (10, 0, 100), (11, 0, 99), (109, 0, 1), (110, 0, 0), (111, 0, 0)):
            entries, book, _ = self.fall([("repay", "a")], came)
            self.assertEqual(entries[0], (0, "repay", "a", 110, min(came, 110)))
            self.assertEqual((book[0][0], book[1][0]), (("a", size), ("a", owed)))

    def test_fill(self):
        for level, came, behind in ((0, 19, 19), (0, 20, 20), (0, 21, 20), (15, 3, 18), (15, 9, 20), (20, 5, 20)):
            entries, book, _ = self.fall([("fill", "v")], came, levels=[("v", level)])
            self.assertEqual(entries[0], (0, "fill", "v", 20 - level, behind - level))
            self.assertEqual(book[3], [("v", behind)])

    def test_lend(self):
        for loan, need in ((0, 40), (1, 39), (39, 1), (40, 0), (41, 0), (100, 0)):
            loans = [("p", "q", loan)] if loan else []
            loans = sorted(loans + [("q", "p", 3), ("p", "r", 5), ("r", "q", 7)])
            entries, _, moves = self.fall([("lend", "q", 40)], 50, loans=loans)
            self.assertEqual(entries[0], (0, "lend", "q", need, need))
            self.assertEqual(moves, [("lend", "q", need)] if need else [])
            entries, _, moves = self.fall([("lend", "q", 40)], 2, loans=loans)
            self.assertEqual(entries[0], (0, "lend", "q", need, min(need, 2)))

    def test_lends_of_one_fall_go_by_one_another(self):
        rules = [("lend", "q", 10), ("lend", "q", 15), ("lend", "r", 10), ("lend", "q", 12)]
        entries, _, moves = self.fall(rules, 100, loans=[("p", "q", 4)])
        self.assertEqual([one[3] for one in entries], [6, 5, 10, 0, 79])
        self.assertEqual(moves, [("lend", "q", 6), ("lend", "q", 5), ("lend", "r", 10)])

    def test_back(self):
        loans = [("p", "q", 9), ("q", "p", 30), ("q", "r", 8), ("r", "p", 2)]
        entries, _, moves = self.fall([("back", "q"), ("back", "r"), ("back", "q"), ("back", "s")], 50, loans=loans)
        self.assertEqual(entries[:4], [(0, "back", "q", 30, 30), (1, "back", "r", 2, 2), (2, "back", "q", 0, 0),
                                       (3, "back", "s", 0, 0)])
        self.assertEqual(moves, [("back", "q", 30), ("back", "r", 2)])
        entries, _, moves = self.fall([("back", "q"), ("lend", "r", 5), ("back", "q")], 12, loans=loans)
        self.assertEqual([one[3:] for one in entries], [(30, 12), (5, 0), (18, 0), (0, 0)])
        self.assertEqual(moves, [("back", "q", 12)])

    def test_lend_and_back_of_one_pool(self):
        loans = [("p", "q", 9), ("q", "p", 30)]
        entries, _, moves = self.fall([("lend", "q", 20), ("back", "q"), ("lend", "q", 20)], 100, loans=loans)
        self.assertEqual([one[3] for one in entries], [11, 30, 0, 59])
        self.assertEqual(moves, [("lend", "q", 11), ("back", "q", 30)])

    def test_the_order_of_that_name(self):
        pool = pool_of([("pay", "a"), REST])
        self.assertEqual(fell(pool, "other", book_of(OWED), 4, [])[0], [(0, "rest", "a", 4, 4)])
        self.assertEqual(fell(pool, "o", book_of(OWED), 4, [])[0][0], (0, "pay", "a", 10, 4))

    def test_lost_stays(self):
        self.assertEqual(self.fall([], 5, lost=17)[1][4], 17)


class Guards(Falling):
    POTS = (("v", 20), ("w", 50))

    def guarded(self, rules, came, guards, **more):
        return self.fall(rules, came, pots=self.POTS, guards=guards, **more)

    def test_enough_in_the_pot(self):
        entries, book, _ = self.guarded([], 0, [("w", "b")], levels=[("v", 5), ("w", 50)])
        self.assertEqual(entries, [(0, "rest", "c", 0, 0), (0, "guard", "b", 20, 20)])
        self.assertEqual(book[1], [("a", 10), ("b", 0), ("c", 30)])
        self.assertEqual(book[3], [("v", 5), ("w", 30)])

    def test_too_little_in_the_pot(self):
        entries, book, _ = self.guarded([], 0, [("v", "b")], levels=[("v", 5), ("w", 50)])
        self.assertEqual(entries[1], (0, "guard", "b", 20, 5))
        self.assertEqual((book[1][1], book[3]), (("b", 15), [("v", 0), ("w", 50)]))

    def test_behind_the_rules(self):
        entries, book, _ = self.guarded([("fill", "v"), ("pay", "a")], 26, [("v", "a")], levels=[("v", 0), ("w", 0)])
        self.assertEqual(entries, [(0, "fill", "v", 20, 20), (1, "pay", "a", 10, 6), (2, "rest", "c", 0, 0),
                                   (0, "guard", "a", 4, 4)])
        self.assertEqual(book[3], [("v", 16), ("w", 0)])

    def test_several_in_order(self):
        entries, book, _ = self.guarded([], 0, [("v", "c"), ("w", "a"), ("v", "b")], levels=[("v", 20), ("w", 9)])
        self.assertEqual(entries[1:], [(0, "guard", "c", 30, 20), (1, "guard", "a", 10, 9), (2, "guard", "b", 20, 0)])
        self.assertEqual(book[1], [("a", 1), ("b", 20), ("c", 10)])

    def test_a_claim_that_is_owed_nothing(self):
        entries, book, _ = self.guarded([("pay", "a")], 10, [("v", "a")], levels=[("v", 20), ("w", 0)])
        self.assertEqual(entries[2], (0, "guard", "a", 0, 0))
        self.assertEqual(book[3], [("v", 20), ("w", 0)])

    def test_a_claim_that_a_guard_paid_is_missed(self):
        book = self.guarded([], 0, [("w", "a")], levels=[("v", 0), ("w", 50)], runs={"a": 3, "b": 1, "c": 0})[1]
        self.assertEqual(book[1][0], ("a", 0))
        self.assertEqual(book[2], [("a", 4), ("b", 2), ("c", 1)])


class Missed(Falling):
    def runs(self, rules, came, **more):
        return [days for _, days in self.fall(rules, came, runs={"a": 5, "b": 0, "c": 2}, **more)[1][2]]

    def test_a_pay_serves_where_it_got_all(self):
        self.assertEqual(self.runs([("pay", "a")], 10), [0, 1, 3])
        self.assertEqual(self.runs([("pay", "a")], 9), [6, 1, 3])
        self.assertEqual(self.runs([("pay", "a"), ("pay", "b"), ("pay", "c")], 60), [0, 0, 0])
        self.assertEqual(self.runs([("pay", "a"), ("pay", "b"), ("pay", "c")], 59), [0, 0, 3])

    def test_a_need_of_nought_serves_nobody(self):
        self.assertEqual(self.runs([("pay", "a")], 50, owed={"a": 0, "b": 1, "c": 1}), [6, 1, 3])
        self.assertEqual(self.runs([("share", ("a", "b"))], 50, owed={"a": 0, "b": 0, "c": 1}), [6, 1, 3])

    def test_a_later_rule_without_need_takes_nothing_back(self):
        self.assertEqual(self.runs([("pay", "a"), ("pay", "a"), ("share", ("a", "b"))], 15), [0, 1, 3])

    def test_a_share_serves_all_or_none(self):
        self.assertEqual(self.runs([("share", ("a", "b"))], 30), [0, 0, 3])
        self.assertEqual(self.runs([("share", ("a", "b"))], 29), [6, 1, 3])
        # The first got all that it needed, but the share did not.
        self.assertEqual(self.runs([("share", ("a", "b"))], 1, owed={"a": 1, "b": 1, "c": 0}), [6, 1, 3])
        self.assertEqual(self.runs([("share", ("a", "b"))], 1, owed={"a": 0, "b": 1, "c": 0}), [0, 0, 3])

    def test_a_repay_serves_where_it_got_all(self):
        self.assertEqual(self.runs([("repay", "a")], 110), [0, 1, 3])
        self.assertEqual(self.runs([("repay", "a")], 109), [6, 1, 3])
        self.assertEqual(self.runs([("repay", "a"), ("pay", "a")], 109), [6, 1, 3])

    def test_parts_and_rests_serve_nobody(self):
        self.assertEqual(self.runs([], 10 ** 6, parts=[("a", 5), ("b", 4)]), [6, 1, 3])

    def test_a_claim_without_size_is_not_missed(self):
        self.assertEqual(self.runs([], 0, owed={"a": 0, "b": 0, "c": 9}, sizes={"a": 0, "b": 0}), [0, 0, 3])
        self.assertEqual(self.runs([("repay", "b")], 1, owed={"a": 0, "b": 0, "c": 9}, sizes={"a": 0, "b": 1}), [0, 0, 3])


class GreatNumbers(Falling):
    def test_up_to_ten_to_the_thirty(self):
        great = 10 ** 30
        owed = {"a": great, "b": great, "c": great}
        sizes = {"a": great, "b": great - 1, "c": great}
        rules = [("share", ("a", "b", "c")), ("repay", "b"), ("fill", "v"), ("lend", "q", great), REST]
        pool = pool_of(rules, [("a", 5)], [("v", great)])
        book = book_of(owed, sizes=sizes, levels=[("v", 1)], runs={"a": great}, lost=great)
        entries, told, moves = self.assert_own(fell, pool, "o", book, great, [("p", "q", great - 1)])
        half = great // 2
        self.assertEqual(entries[:4], [
            (0, "part", "a", half, half), (1, "share", "a", great, half // 3 + 1), (1, "share", "b", great, half // 3 + 1),
            (1, "share", "c", great, half // 3),
        ])
        self.assertEqual(told[2], [("a", great + 1), ("b", 1), ("c", 1)])
        entries, told, moves = self.assert_own(fell, pool, "o", book, 20 * great, [("p", "q", great - 1)])
        self.assertEqual([one[3:] for one in entries[1:]], [
            (great, great), (great, great), (great, great), (great - 1, great - 1), (great - 1, great - 1), (1, 1),
            (5 * great + 1, 5 * great + 1),
        ])
        self.assertEqual(moves, [("lend", "q", 1)])
        self.assertEqual(told, ([("a", great), ("b", 0), ("c", great)], [("a", 0), ("b", 0), ("c", 0)],
                                [("a", 0), ("b", 0), ("c", 0)], [("v", great)], great))


class MadeFalls(Asking, unittest.TestCase):
    def made(self):
        for seed in range(1500):
            making = Making(seed)
            chance = random.Random(seed)
            pool = making.pool("p", ["q", "r"], 5, 3)
            sizes = [(claim, chance.choice((0, size, chance.randint(1, size)))) for claim, size, _ in pool[1]]
            owed = [(claim, chance.randint(0, 20) if size else 0) for claim, size in sizes]
            runs = [(claim, chance.randint(0, 4)) for claim, _ in sizes]
            levels = [(pot, chance.choice((0, mark, chance.randint(0, mark)))) for pot, mark in pool[2]]
            loans = [(one, two, chance.randint(1, 30)) for one, two in (("p", "q"), ("p", "r"), ("q", "p"), ("q", "r"), ("r", "p"))
                     if chance.random() < 0.5]
            for order in pool[4]:
                yield pool, order[0], (sizes, owed, runs, levels, chance.randint(0, 9)), making.income(), loans

    def test_as_coin_by_coin(self):
        for arguments in self.made():
            self.assertEqual(self.assert_own(fell, *arguments), fell_coin_by_coin(*arguments))

    def test_all_that_came_is_given_and_rules_are_filled_in_order(self):
        for pool, order, book, came, loans in self.made():
            entries, behind, moves = fell(pool, order, book, came, loans)
            given = [one for one in entries if one[1] not in ("twice", "guard")]
            self.assertEqual(sum(one[4] for one in given), came)
            lacking = [place for place, kind, _, need, got in given if kind != "part" and got < need]
            for place, kind, _, need, got in given:
                self.assertLessEqual(got, need)
                if kind != "part" and got > 0 and lacking:
                    self.assertLessEqual(place, min(lacking))
            for kind, other, coins in moves:
                self.assertGreater(coins, 0)
            for ahead, now in zip(book[0] + book[1], behind[0] + behind[1]):
                self.assertTrue(0 <= now[1] <= ahead[1])
            for (pot, level), (_, mark) in zip(behind[3], pool[2]):
                self.assertTrue(0 <= level <= mark)


if __name__ == "__main__":
    unittest.main()
