"""Promises [2], [23], [24]: what a pool can come to, which rows can give a coin, and the days where they do."""

import unittest

from tests.helper import Asking, Making, rows_text
from tranchefall.days import begun, ran, ran_alone
from tranchefall.outline import order_of, outlined, start_of, steps_of
from tranchefall.reaching import days_into, days_to, never, states_of, twice_word
from tranchefall.reader import read_deal

T, F = True, False
MOST = 10 ** 30


def pool_of(*rows):
    """The first pool of a text; the pools that its lends and backs name stand behind it."""
    others = []
    for name in ("q", "r"):
        others += ["pool " + name, f"claim c{name} 1 1", "order o", "rest c" + name]
    return read_deal(rows_text("pool p", *rows, *others))[0]


def rows_asked(pool):
    for order, parts, rules in pool[4]:
        for place, kind in enumerate(["part"] * len(parts) + [rule[0] for rule in rules]):
            if kind not in ("lend", "back"):
                yield order, place, kind


def rows_given(pool, log):
    return {(entry[1], entry[2], entry[3]) for entry in log if entry[0] == pool[0] and entry[1] and entry[6] > 0}


class Reaching(Asking, unittest.TestCase):
    def assert_days(self, days):
        self.assertIs(type(days), list)
        for day in days:
            self.assertIs(type(day), tuple)
            self.assertEqual([type(one) for one in day], [int, int])
            self.assertTrue(0 <= min(day) and max(day) <= MOST)

    def assert_states(self, pool):
        told = self.assert_own(states_of, pool)
        self.assertIs(type(told), list)
        self.assertEqual(told[0], start_of(pool))
        self.assertEqual(len(told), len(set(told)))
        reached = {start_of(pool)}
        new = {start_of(pool)}
        while new:
            new = {step[2] for outline in new for step in steps_of(pool, outline)} - reached
            reached |= new
        self.assertEqual(set(told), reached)
        return told

    def assert_all_come_to(self, pool):
        for outline in self.assert_states(pool):
            days = self.assert_own(days_into, pool, outline)
            self.assert_days(days)
            if days == []:
                self.assertEqual(outline, start_of(pool))
            else:
                self.assertEqual(outlined(pool, ran_alone(pool, days)[-1][0]), outline)
        self.assertEqual(days_into(pool, start_of(pool)), [])

    def assert_rows(self, pool):
        """Each row has days that it gives a coin on, or is told by never; tells those of never."""
        lacking = []
        for order, place, kind in rows_asked(pool):
            days = self.assert_own(days_to, pool, order, place)
            if days is None:
                lacking.append((order, place))
                continue
            self.assert_days(days)
            self.assertIn((order, place, kind), rows_given(pool, ran_alone(pool, days)[-1][2]))
        self.assertEqual(self.assert_own(never, pool), lacking)
        return lacking

    def assert_twice(self, pool):
        told = self.assert_own(twice_word, pool)
        self.assertIs(type(told), tuple)
        tenths = {order: sum(part[1] for part in parts) for order, parts, _ in pool[4]}
        if told[0] == "twice":
            self.assert_days(told[1])
            log = ran_alone(pool, told[1])[-1][2]
            self.assertIn((-1, "twice", ""), [entry[2:5] for entry in log])
        else:
            self.assertEqual(told, ("never", states_of(pool)))
            self.assertTrue(all(tenths[order_of(pool, outline)] <= 10 for outline in told[1]))
        return told[0]


class States(Reaching):
    def test_one_order_without_rules(self):
        pool = pool_of("claim a 5 1", "order o", "rest a")
        self.assertEqual(states_of(pool), [((), (T,), ())])
        self.assertEqual(days_into(pool, ((), (T,), ())), [])
        self.assertIsNone(days_into(pool, ((), (F,), ())))

    def test_a_claim_that_is_eaten_or_repaid(self):
        for rows in (["eat a", "order o", "rest a"], ["order o", "repay a", "rest a"]):
            pool = pool_of("claim a 5 1", *rows)
            self.assertEqual(self.assert_states(pool), [((), (T,), ()), ((), (F,), ())])
            self.assert_all_come_to(pool)

    def test_an_outline_that_is_not_among_them(self):
        pool = pool_of("claim a 5 1", "claim b 5 1", "pot v 3", "eat b", "order o", "pay a", "rest a", "look a 2 o")
        self.assertEqual(set(self.assert_states(pool)), {
            ((("a", days),), (T, alive), (F,)) for days in (0, 1, 2) for alive in (T, F)})
        for outline in (((("a", 0),), (F, T), (F,)), ((("a", 0),), (T, T), (T,)), ((("a", 3),), (T, T), (F,))):
            self.assertIsNone(self.assert_own(days_into, pool, outline))
        self.assert_all_come_to(pool)

    def test_days_running_that_exclude_one_another(self):
        pool = pool_of("claim a 5 1", "claim b 5 1", "order o", "pay a", "pay b", "rest a", "look a 3 o", "look b 3 o")
        told = {tuple(days for _, days in outline[0]) for outline in self.assert_states(pool)}
        self.assertEqual(told, {(0, 0), (0, 1), (0, 2), (0, 3), (1, 1), (1, 2), (1, 3), (2, 2), (2, 3), (3, 3)})
        self.assert_all_come_to(pool)

    def test_pots_and_guards(self):
        pool = pool_of("claim a 5 1", "claim b 8 2", "pot v 9", "pot w 4", "eat a", "order o", "part a 3", "fill v",
                       "lend q 7", "pay a", "fill w", "back r", "repay b", "rest a", "guard v a")
        self.assert_all_come_to(pool)

    def test_orders_whose_parts_leave_nothing(self):
        pool = pool_of("claim a 5 1", "claim b 8 2", "pot v 9", "eat a", "order o", "part a 5", "part b 5", "fill v", "pay a",
                       "rest a", "order w", "fill v", "pay a", "rest b", "look a 2 w", "guard v a")
        self.assert_all_come_to(pool)
        pool = pool_of("claim a 5 1", "pot v 9", "order o", "part a 10", "fill v", "rest a")
        self.assertEqual(states_of(pool), [((), (T,), (F,))])

    def test_a_kill_behind_another_one(self):
        # While b is alive its look keeps the first order, so b is eaten ahead of the day where the pot is filled.
        pool = pool_of("claim a 5 1", "claim b 7 1", "pot v 3", "eat b a", "order o", "rest a", "order w", "fill v", "rest a",
                       "look b 1 o", "look a 2 w")
        self.assert_all_come_to(pool)
        self.assertIsNotNone(days_into(pool, ((("b", 0), ("a", 0)), (F, F), (T,))))

    def test_rules_ahead_of_a_cut_that_need_far_more_than_it(self):
        # A rule that stands twice needs nothing the second time, if only the first was filled.
        for ahead, rules in (
            (["pot v 1000"], ["fill v", "fill v"]), ([], ["lend q 1000", "lend q 1000"]),
            (["claim b 1000 1"], ["repay b", "repay b"]), (["claim b 1 1000"], ["pay b", "pay b"]),
        ):
            pots = [row for row in ahead if row.startswith("pot")]
            claims = [row for row in ahead if row.startswith("claim")]
            pool = pool_of("claim a 1 1", *claims, *pots, "order o", "part a 9", *rules, "pay a", "rest a", "look a 3 o")
            self.assert_all_come_to(pool)
            self.assert_rows(pool)
        pool = pool_of("claim a 1 1", "claim b 1 1000", "order o", "rest a", "order w", "part a 9", "pay b", "pay b", "pay a",
                       "rest a", "look b 5 w", "look a 7 o")
        self.assert_all_come_to(pool)

    def test_great_numbers(self):
        pool = pool_of("claim a 1000000000000 1000000000000", "claim b 1000000000000 999999999999", "pot v 1000000000000",
                       "eat b", "order o", "part a 9", "pay a", "lend q 1000000000000", "fill v", "repay b", "rest a",
                       "order w", "part b 7", "repay a", "lend r 1", "rest a", "look a 5 w", "look b 3 o")
        self.assert_all_come_to(pool)
        self.assertEqual(self.assert_rows(pool), [])

    def test_made_pools(self):
        for seed in range(120):
            self.assert_all_come_to(Making(seed).pool("p", ["q", "r"], 3))

    def test_many_outlines(self):
        orders = (
            ("oa", "fill v", "repay c", "pay a", "fill w", "repay f", "fill x", "repay e", "repay b"),
            ("ob", "pay a", "repay f", "repay c", "fill x", "fill v", "repay b", "repay e", "repay d"),
            ("oc", "fill w", "repay f", "fill v", "repay d", "fill x", "repay b", "pay a", "repay c"),
            ("od", "fill x", "pay a", "repay b", "repay c", "repay f", "repay d", "fill v", "fill w"),
            ("oe", "repay e", "pay a", "repay d", "repay c", "repay b", "fill w", "repay f", "fill v"),
        )
        rows = [f"claim {name} 9 1" for name in "abcdef"] + ["pot v 3", "pot w 3", "pot x 3", "eat e a"]
        for name, *rules in orders:
            rows += ["order " + name] + rules + ["rest f"]
        pool = pool_of(*rows, "look a 4 oe", "look a 3 od", "look a 2 oc", "look a 1 ob")
        told = self.assert_states(pool)
        self.assertGreater(len(told), 800)
        for outline in told[::40] + told[-1:]:
            days = days_into(pool, outline)
            self.assertEqual(outlined(pool, (ran_alone(pool, days) or [begun([pool])[0]])[-1][0]), outline)


class Rows(Reaching):
    def assert_never(self, expected, *rows):
        self.assertEqual(self.assert_rows(pool_of(*rows)), expected)

    def test_all_rows_give(self):
        self.assert_never([], "claim a 5 1", "claim b 5 1", "pot v 3", "order o", "part a 4", "part b 5", "lend q 5",
                          "pay a", "share a b", "repay a", "fill v", "back r", "rest b")

    def test_a_rule_behind_one_that_fills_it(self):
        self.assert_never([("o", 1)], "claim a 5 1", "order o", "pay a", "pay a", "rest a")
        self.assert_never([("o", 1)], "claim a 5 1", "order o", "repay a", "pay a", "rest a")
        self.assert_never([("o", 1), ("o", 2)], "claim a 5 1", "order o", "repay a", "repay a", "pay a", "rest a")
        self.assert_never([], "claim a 5 1", "order o", "pay a", "repay a", "rest a")
        self.assert_never([("o", 1)], "claim a 5 1", "pot v 1", "order o", "fill v", "fill v", "rest a")
        self.assert_never([("o", 1), ("o", 2)], "claim a 5 1", "claim b 5 1", "order o", "share a b", "pay b", "share b a", "rest a")
        self.assert_never([("o", 2)], "claim a 5 1", "claim b 5 1", "order o", "pay b", "share a b", "pay a", "rest a")

    def test_parts_ahead_that_take_all(self):
        self.assert_never([("o", 1), ("o", 2), ("o", 3)], "claim a 5 1", "claim b 5 1", "order o", "part a 10", "part b 1",
                          "pay a", "rest a")
        self.assert_never([("o", 2), ("o", 3)], "claim a 5 1", "claim b 5 1", "order o", "part a 9", "part b 1", "pay a", "rest a")
        self.assert_never([("o", 2), ("o", 3)], "claim a 5 1", "claim b 5 1", "order o", "part a 9", "part b 10", "pay a", "rest a")
        self.assert_never([("o", 2), ("o", 3)], "claim a 5 1", "claim b 5 1", "claim c 5 1", "order o", "part a 5", "part b 5",
                          "part c 5", "rest a")
        self.assert_never([("o", 3)], "claim a 5 1", "claim b 5 1", "claim c 5 1", "order o", "part a 5", "part b 4",
                          "part c 5", "rest a")
        self.assert_never([], "claim a 5 1", "claim b 5 1", "order o", "part a 8", "part b 1", "pay a", "rest a")

    def test_an_order_that_no_look_turns_to(self):
        self.assert_never([("w", 0), ("w", 1), ("w", 3)], "claim a 5 1", "order o", "pay a", "rest a",
                          "order w", "part a 3", "pay a", "lend q 1", "rest a")

    def test_an_order_behind_looks(self):
        self.assert_never([], "claim a 5 1", "order o", "pay a", "rest a", "order w", "pay a", "rest a", "look a 9 w")
        # The first look takes all days that the second might.
        self.assert_never([("w", 0)], "claim a 5 1", "order o", "pay a", "rest a", "order w", "rest a",
                          "order x", "rest a", "look a 2 x", "look a 3 w")
        # a is missed on every day, so that behind the first day its look is always ahead of b's.
        self.assert_never([("w", 0)], "claim a 5 1", "claim b 5 1", "order o", "part b 1", "repay b", "rest a",
                          "order w", "rest a", "order x", "part a 5", "rest a", "look a 1 x", "look b 1 w")

    def test_a_row_that_only_kills_lead_to(self):
        self.assert_never([("o", 1)], "claim a 5 1", "claim b 5 1", "eat b", "order o", "share a b", "pay a", "rest a")
        self.assert_never([], "claim a 5 1", "claim b 5 1", "pot v 2", "order o", "pay b", "rest a",
                          "order w", "pay a", "rest b", "look b 2 w", "look a 2 o")

    def test_a_row_of_an_order_that_kills_alone_lead_to(self):
        # a keeps the order turned while it is alive; only where it is eaten b can be looked at.
        rows = ["claim a 5 1", "claim b 5 1", "order o", "rest a", "order w", "rest a", "order x", "pay b", "rest b",
                "look a 1 w", "look b 3 x"]
        self.assert_never([("x", 0), ("x", 1)], *rows)
        self.assert_never([], *rows[:2], "eat a", *rows[2:])

    def test_lends_and_backs_are_not_told(self):
        self.assert_never([("w", 0)], "claim a 5 1", "order o", "lend q 3", "back q", "rest a",
                          "order w", "rest a")

    def test_no_deal_makes_a_told_row_give(self):
        given = 0
        for seed in range(150):
            making = Making(seed)
            deal = making.deal()
            lacking = {pool[0]: {pair for pair in never(pool)} for pool in deal}
            for _, log in ran(deal, making.days(deal, 40)):
                for pool in deal:
                    rows = {row[:2] for row in rows_given(pool, log) if row[2] not in ("guard", "twice", "lend", "back")}
                    given += len(rows)
                    self.assertFalse(rows & lacking[pool[0]])
        self.assertGreater(given, 1000)

    def test_made_pools(self):
        told = [self.assert_rows(Making(seed).pool("p", ["q", "r"])) for seed in range(300)]
        self.assertTrue(any(told) and not all(told))


class TwiceWord(Reaching):
    def test_the_first_order(self):
        pool = pool_of("claim a 5 1", "claim b 5 1", "order o", "part a 6", "part b 5", "rest a")
        self.assertEqual(self.assert_twice(pool), "twice")

    def test_just_ten(self):
        pool = pool_of("claim a 5 1", "claim b 5 1", "order o", "part a 5", "part b 5", "rest a")
        self.assertEqual(self.assert_twice(pool), "never")
        self.assertEqual(twice_word(pool), ("never", [((), (T, T), ())]))

    def test_an_order_behind_a_look(self):
        rows = ["claim a 5 1", "claim b 5 1", "order o", "pay a", "rest a", "order w", "part a 10", "part b 1", "rest a"]
        self.assertEqual(self.assert_twice(pool_of(*rows)), "never")
        self.assertEqual(self.assert_twice(pool_of(*rows, "look a 7 w")), "twice")
        self.assertEqual(self.assert_twice(pool_of(*rows, "look a 3 o", "look a 7 w")), "never")

    def test_a_look_that_only_some_days_come_to(self):
        pool = pool_of("claim a 5 1", "claim b 5 1", "pot v 5", "eat b", "order o", "pay a", "pay b", "rest a",
                       "order w", "pay b", "rest a", "order x", "part a 9", "part b 9", "rest a",
                       "look b 2 w", "look a 2 x")
        self.assertEqual(self.assert_twice(pool), "twice")

    def test_made_pools(self):
        words = [self.assert_twice(Making(seed).pool("p", ["q"])) for seed in range(300)]
        self.assertEqual(set(words), {"twice", "never"})

    def test_no_deal_asks_twice_where_never_is_told(self):
        for seed in range(150):
            making = Making(seed)
            deal = making.deal()
            words = {pool[0]: twice_word(pool)[0] for pool in deal}
            for _, log in ran(deal, making.days(deal, 30)):
                for entry in log:
                    if entry[3] == "twice":
                        self.assertEqual(words[entry[0]], "twice")


if __name__ == "__main__":
    unittest.main()
