"""Pools in the making: what they hold, and that what they tell is the asker's own ([2])."""

import unittest

from tranchefall.drafts import OrderDraft, PoolDraft, rule_of
from tranchefall.rows import row_of

ROWS = [
    "claim a 10 2", "claim b 20 3", "claim c 30 4", "pot p 7", "pot q 8", "eat c b",
    "order main", "part a 3", "part b 4", "pay a", "share b c", "fill p", "lend other 9",
    "back other", "rest c",
    "order turned", "repay c", "rest a",
    "look a 2 turned", "look b 9 main", "guard p a",
]
POOL = (
    "pa",
    [("a", 10, 2), ("b", 20, 3), ("c", 30, 4)],
    [("p", 7), ("q", 8)],
    ["c", "b"],
    [
        (
            "main",
            [("a", 3), ("b", 4)],
            [("pay", "a"), ("share", ("b", "c")), ("fill", "p"), ("lend", "other", 9), ("back", "other"),
             ("rest", "c")],
        ),
        ("turned", [], [("repay", "c"), ("rest", "a")]),
    ],
    [("a", 2, "turned"), ("b", 9, "main")],
    [("p", "a")],
)


def drafted(rows=ROWS):
    draft = PoolDraft("pa")
    for place, row in enumerate(rows, 1):
        draft.put(row_of(row, place))
    return draft


class Rules(unittest.TestCase):
    def test_each_rule(self):
        for row, rule in (
            ("pay a", ("pay", "a")),
            ("share a b", ("share", ("a", "b"))),
            ("share a b c d e f", ("share", ("a", "b", "c", "d", "e", "f"))),
            ("repay a", ("repay", "a")),
            ("fill p", ("fill", "p")),
            ("lend q 5", ("lend", "q", 5)),
            ("back q", ("back", "q")),
            ("rest a", ("rest", "a")),
        ):
            with self.subTest(row=row):
                self.assertEqual(rule_of(row_of(row, 1)), rule)


class Orders(unittest.TestCase):
    def test_a_new_order(self):
        order = OrderDraft("main")
        self.assertEqual(order.order_told(), ("main", [], []))
        self.assertIs(order.has_rest(), False)
        self.assertIs(order.shares_or_repays("a"), False)

    def test_has_rest(self):
        order = OrderDraft("main")
        order.rules.append(("pay", "a"))
        self.assertIs(order.has_rest(), False)
        order.rules.append(("rest", "a"))
        self.assertIs(order.has_rest(), True)


class Pools(unittest.TestCase):
    def test_a_new_pool(self):
        self.assertEqual(PoolDraft("pa").pool_told(), ("pa", [], [], [], [], [], []))

    def test_all_rows(self):
        self.assertEqual(drafted().pool_told(), POOL)

    def test_rows_handed_in_are_not_changed_nor_kept(self):
        draft = PoolDraft("pa")
        for row in ROWS:
            words = row_of(row, 1)
            before = list(words)
            draft.put(words)
            self.assertEqual(words, before)
            words.clear()
        self.assertEqual(draft.pool_told(), POOL)

    def test_two_drafts_share_nothing(self):
        drafted()
        self.assertEqual(PoolDraft("pb").pool_told(), ("pb", [], [], [], [], [], []))

    def test_what_is_told_is_the_askers_own(self):
        draft = drafted()
        told = draft.pool_told()
        for order in told[4]:
            order[1].append("more")
            order[2].clear()
        for at in range(1, 7):
            told[at].append("more")
        self.assertEqual(draft.pool_told(), POOL)

    def test_later_rows_change_nothing_told(self):
        draft = drafted()
        told = draft.pool_told()
        for row in ("claim d 1 1", "pot r 1", "eat a", "part a 1", "pay b", "order more", "look a 1 more", "guard q b"):
            draft.put(row_of(row, 1))
        self.assertEqual(told, POOL)

    def test_names(self):
        draft = drafted()
        for name in ("a", "b", "c"):
            self.assertIs(draft.has_claim(name), True)
            self.assertIs(draft.has_pot(name), False)
            self.assertIs(draft.has_order(name), False)
        for name in ("p", "q"):
            self.assertIs(draft.has_claim(name), False)
            self.assertIs(draft.has_pot(name), True)
        for name in ("main", "turned"):
            self.assertIs(draft.has_order(name), True)
            self.assertIs(draft.has_claim(name), False)
        for name in ("pa", "other", "x"):
            self.assertIs(draft.has_claim(name) or draft.has_pot(name) or draft.has_order(name), False)

    def test_guards(self):
        draft = drafted()
        self.assertIs(draft.has_guard("a"), True)
        for name in ("b", "c", "p"):
            self.assertIs(draft.has_guard(name), False)

    def test_shares_and_repays(self):
        draft = drafted()
        self.assertIs(draft.shares_or_repays("a"), False)
        self.assertIs(draft.shares_or_repays("b"), True)
        self.assertIs(draft.shares_or_repays("c"), True)
        alone = drafted(["claim a 1 1", "order o", "repay a", "rest a", "order w", "rest a"])
        self.assertIs(alone.shares_or_repays("a"), True)


if __name__ == "__main__":
    unittest.main()
