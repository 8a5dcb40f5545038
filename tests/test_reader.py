"""Promises [2] to [7]: what is read of a deal's text, and what is refused."""

import unittest

from tests.helper import Asking, rows_text
from tranchefall.errors import BadRow, Misplaced, NoName, TooMany, Twice, Unfinished, Unguarded
from tranchefall.reader import read_deal

SMALL = ["pool p", "claim a 10 2", "order o", "rest a"]
SMALL_DEAL = [("p", [("a", 10, 2)], [], [], [("o", [], [("rest", "a")])], [], [])]

GREAT = [
    "pool first",                                                  # 1
    "claim a 100 5", "claim b 50 6", "claim c 7 1000000000000",    # 2 3 4
    "pot till 20", "pot jar 1",                                    # 5 6
    "eat c b",                                                     # 7
    "order usual", "part b 3", "part a 10",                        # 8 9 10
    "pay a", "share b c", "repay b", "fill till", "lend last 40", "back mid", "rest c",    # 11 .. 17
    "order usual" + "x", "rest a",                                 # 18 19
    "look b 2 usualx", "look a 9 usual", "look b 1 usual",         # 20 21 22
    "guard till a",                                                # 23
    "pool mid", "claim d 1 1", "order usual", "lend first 1", "back first", "rest d",      # 24 .. 29
    "pool last", "claim e 2 3", "claim f 2 3", "eat f", "order usual", "back first", "rest e",    # 30 .. 36
]
GREAT_DEAL = [
    (
        "first",
        [("a", 100, 5), ("b", 50, 6), ("c", 7, 1000000000000)],
        [("till", 20), ("jar", 1)],
        ["c", "b"],
        [
            (
                "usual", [("b", 3), ("a", 10)],
                [("pay", "a"), ("share", ("b", "c")), ("repay", "b"), ("fill", "till"), ("lend", "last", 40),
                 ("back", "mid"), ("rest", "c")],
            ),
            ("usualx", [], [("rest", "a")]),
        ],
        [("b", 2, "usualx"), ("a", 9, "usual"), ("b", 1, "usual")],
        [("till", "a")],
    ),
    ("mid", [("d", 1, 1)], [], [], [("usual", [], [("lend", "first", 1), ("back", "first"), ("rest", "d")])], [], []),
    ("last", [("e", 2, 3), ("f", 2, 3)], [], ["f"], [("usual", [], [("back", "first"), ("rest", "e")])], [], []),
]

# A pool that all kinds of rows may be put behind.
BASE = ["pool p", "claim a 10 2", "claim b 10 2", "pot v 5", "eat a", "order o", "part a 1", "pay a", "rest b"]


def named(many, first="x"):
    return [first + letter for letter in "abcdefghij"[:many]]


class Reading(Asking, unittest.TestCase):
    def assert_read(self, rows, deal):
        told = read_deal(rows_text(*rows))
        self.assertEqual(told, deal)
        self.assertIs(type(told), list)

    def assert_row_refused(self, refusal, rows, place=None):
        """The last row is refused, and so it is with rows behind it, whatever these are."""
        place = len(rows) if place is None else place
        for behind in ([], ["pool zz"], ["what"], [""], ["rest a"]):
            self.assert_refused(refusal, place, read_deal, rows_text(*rows, *behind))
        spaced = [row for one in rows for row in ("", one)]
        self.assert_refused(refusal, 2 * place, read_deal, rows_text(*spaced, "pool zz"))


class Deals(Reading):
    def test_the_least_deal(self):
        self.assert_read(SMALL, SMALL_DEAL)

    def test_a_deal_with_every_sort_of_row(self):
        self.assert_read(GREAT, GREAT_DEAL)

    def test_the_kinds_of_what_is_told(self):
        for pool in read_deal(rows_text(*GREAT)):
            self.assertEqual([type(one) for one in pool], [str] + [list] * 6)
            for told in pool[1] + pool[2] + pool[4] + pool[5] + pool[6]:
                self.assertIs(type(told), tuple)
            for order in pool[4]:
                self.assertEqual([type(one) for one in order], [str, list, list])
                self.assertEqual({type(one) for one in order[1] + order[2]}, {tuple})
        self.assertIs(type(read_deal(rows_text(*GREAT))[0][4][0][2][1][1]), tuple)
        self.assert_plain(read_deal(rows_text(*GREAT)))

    def test_blanks_ahead_behind_and_between(self):
        self.assert_read(["   " + row.replace(" ", "    ") + "  " for row in GREAT], GREAT_DEAL)
        self.assert_read(["pool" + " " * 195 + "p"] + SMALL[1:], SMALL_DEAL)

    def test_rows_without_a_word(self):
        self.assert_read([row for one in GREAT for row in ("", "   ", one)], GREAT_DEAL)
        self.assert_read(SMALL + [""], SMALL_DEAL)
        self.assert_read(SMALL + ["", " ", ""], SMALL_DEAL)
        self.assert_read([" ", ""] + SMALL, SMALL_DEAL)

    def test_four_hundred_rows(self):
        self.assert_read([" " * 200] * (400 - len(GREAT)) + GREAT, GREAT_DEAL)

    def test_names_of_orders_have_nothing_to_do_with_others(self):
        rows = ["pool p", "claim a 1 1", "pot v 1", "order p", "rest a", "order a", "rest a", "order v", "fill v", "rest a",
                "look a 1 v", "pool q", "claim b 1 1", "order p", "rest b", "order q", "rest b", "order a", "rest b"]
        told = read_deal(rows_text(*rows))
        self.assertEqual([order[0] for order in told[0][4]], ["p", "a", "v"])
        self.assertEqual([order[0] for order in told[1][4]], ["p", "q", "a"])

    def test_lends_and_backs_ahead_and_behind(self):
        rows = ["pool p", "claim a 1 1", "order o", "lend q 5", "back q", "lend q 6", "rest a",
                "pool q", "claim b 1 1", "order o", "lend p 5", "back p", "rest b"]
        told = read_deal(rows_text(*rows))
        self.assertEqual(told[0][4][0][2][:3], [("lend", "q", 5), ("back", "q"), ("lend", "q", 6)])
        self.assertEqual(told[1][4][0][2][:2], [("lend", "p", 5), ("back", "p")])

    def test_own(self):
        self.assert_own(read_deal, rows_text(*GREAT))
        self.assert_own(read_deal, rows_text(*SMALL))

    def test_rows_that_may_stand_though_odd(self):
        rows = SMALL[:2] + ["order o", "pay a", "pay a", "rest a", "look a 1 o", "look a 1 o"]
        self.assertEqual(read_deal(rows_text(*rows))[0][5], [("a", 1, "o"), ("a", 1, "o")])
        rows = BASE[:6] + ["part b 10", "part a 10", "rest a", "guard v a", "guard v b"]
        self.assertEqual(read_deal(rows_text(*rows))[0][6], [("v", "a"), ("v", "b")])
        rows = ["pool p", "claim a 1 1", "eat a", "order o", "rest a"]
        self.assertEqual(read_deal(rows_text(*rows))[0][3], ["a"])


class Bounds(Reading):
    """The most of each is read; one more is TooMany."""

    def claims(self, many):
        return [f"claim {name} 1 1" for name in named(many)]

    def test_claims(self):
        ahead = ["pool p"] + self.claims(6)
        self.assertEqual(len(read_deal(rows_text(*ahead, "order o", "rest xa"))[0][1]), 6)
        self.assert_row_refused(TooMany, ahead + ["claim more 1 1"])

    def test_pots(self):
        ahead = ["pool p", "claim a 1 1"] + [f"pot {name} 1" for name in named(3)]
        self.assertEqual(len(read_deal(rows_text(*ahead, "order o", "rest a"))[0][2]), 3)
        self.assert_row_refused(TooMany, ahead + ["pot more 1"])

    def test_eat(self):
        ahead = ["pool p"] + self.claims(6)
        for many in (1, 6):
            rows = ahead + [" ".join(["eat"] + named(many)), "order o", "rest xa"]
            self.assertEqual(read_deal(rows_text(*rows))[0][3], named(many))
        self.assert_row_refused(BadRow, ahead + ["eat"])
        self.assert_row_refused(BadRow, ahead + [" ".join(["eat"] + named(7))])

    def test_orders(self):
        ahead = ["pool p", "claim a 1 1"]
        for name in named(5):
            ahead += ["order " + name, "rest a"]
        self.assertEqual(len(read_deal(rows_text(*ahead))[0][4]), 5)
        self.assert_row_refused(TooMany, ahead + ["order more"])

    def test_parts(self):
        ahead = ["pool p"] + self.claims(6) + ["order o"] + [f"part {name} 1" for name in named(6)]
        self.assertEqual(len(read_deal(rows_text(*ahead, "rest xa"))[0][4][0][1]), 6)
        # A seventh part has no claim of its own left, so it is refused ahead of TooMany.
        self.assert_row_refused(Twice, ahead + ["part xa 1"])
        self.assert_row_refused(NoName, ahead + ["part xg 1"])

    def test_rules(self):
        for kinds in (["pay a"] * 8, ["fill v"] * 8, ["lend q 1", "back q"] * 4, ["repay a", "share a b"] * 4):
            ahead = ["pool p", "claim a 1 1", "claim b 1 1", "pot v 1", "order o", "part a 1"] + kinds
            behind = ["pool q", "claim c 1 1", "order o", "rest c"]
            self.assertEqual(len(read_deal(rows_text(*ahead, "rest a", *behind))[0][4][0][2]), 9)
            for more in ("pay a", "share a b", "repay a", "fill v", "lend q 1", "back q"):
                self.assert_row_refused(TooMany, ahead + [more])

    def test_rules_are_counted_anew_in_each_order(self):
        rows = ["pool p", "claim a 1 1", "order o"] + ["pay a"] * 8 + ["rest a", "order w"] + ["pay a"] * 8 + ["rest a"]
        self.assertEqual([len(order[2]) for order in read_deal(rows_text(*rows))[0][4]], [9, 9])

    def test_looks(self):
        ahead = SMALL + ["look a 1 o"] * 4
        self.assertEqual(len(read_deal(rows_text(*ahead))[0][5]), 4)
        self.assert_row_refused(TooMany, ahead + ["look a 1 o"])

    def test_guards(self):
        ahead = ["pool p"] + self.claims(4) + ["pot v 1", "order o", "rest xa"]
        ahead += ["guard v " + name for name in named(3)]
        self.assertEqual(len(read_deal(rows_text(*ahead))[0][6]), 3)
        self.assert_row_refused(TooMany, ahead + ["guard v xd"])

    def test_pools(self):
        ahead = []
        for at, name in enumerate(named(6)):
            ahead += ["pool " + name, f"claim c{name} 1 1", "order o", "rest c" + name]
        self.assertEqual([pool[0] for pool in read_deal(rows_text(*ahead))], named(6))
        self.assert_row_refused(TooMany, ahead + ["pool more"])

    def test_share(self):
        ahead = ["pool p"] + self.claims(6) + ["order o"]
        for many in (2, 6):
            rows = ahead + [" ".join(["share"] + named(many)), "rest xa"]
            self.assertEqual(read_deal(rows_text(*rows))[0][4][0][2][0], ("share", tuple(named(many))))
        self.assert_row_refused(BadRow, ahead + ["share xa"])
        self.assert_row_refused(BadRow, ahead + [" ".join(["share"] + named(7))])

    def test_numbers(self):
        rows = ["pool p", "claim a 1000000000000 1000000000000", "pot v 1000000000000", "order o", "part a 10",
                "lend q 1000000000000", "rest a", "look a 9 o", "pool q", "claim b 1 1", "order o", "rest b"]
        told = read_deal(rows_text(*rows))
        self.assertEqual(told[0][1], [("a", 10 ** 12, 10 ** 12)])
        for at in (1, 2, 4, 5, 7):
            words = rows[at].split()
            for place, word in enumerate(words):
                if word[0] in "19":
                    for wrong in ("0", str(int(word) + 1)):
                        row = " ".join(words[:place] + [wrong] + words[place + 1:])
                        self.assert_row_refused(BadRow, rows[:at] + [row])


class BadRows(Reading):
    def test_at_each_row(self):
        for at in range(len(GREAT) + 1):
            for row in ("what", "pool", "claim a 1", "pay A", "debt a b", "on 1 1", "part a 11", "look a 0 o", "pool order"):
                self.assert_refused(BadRow, at + 1, read_deal, rows_text(*GREAT[:at], row, *GREAT[at:]))

    def test_ahead_of_all_other_refusals(self):
        self.assert_row_refused(BadRow, ["pay A"])
        self.assert_row_refused(BadRow, ["pool p", "order O"])
        self.assert_row_refused(BadRow, ["pool p", "claim p 0 1"])
        self.assert_row_refused(BadRow, ["pool p", "claim a 1 1", "order o", "part x 11"])
        self.assert_row_refused(BadRow, SMALL + ["claim b 0 1"])


class MisplacedRows(Reading):
    def test_ahead_of_the_first_pool(self):
        for row in ("claim a 1 1", "pot v 1", "eat a", "order o", "part a 1", "pay a", "share a b", "repay a", "fill v",
                    "lend q 1", "back q", "rest a", "look a 1 o", "guard v a"):
            self.assert_row_refused(Misplaced, [row])
            self.assert_row_refused(Misplaced, ["", " ", row])

    def test_behind_what_must_stand_behind(self):
        stages = [
            (["claim c 1 1"], []),
            (["pot w 1"], ["pot v 5"]),
            (["eat a"], ["eat b"]),
            (["order w", "part a 1", "pay a", "rest a"], ["order o", "rest a"]),
            (["look a 1 o"], ["look a 1 o"]),
            (["guard v b"], ["guard v a"]),
        ]
        claims = ["pool p", "claim a 1 1", "claim b 1 1"]
        for late in range(1, len(stages)):
            told = stages[late][1]
            if late >= 4:
                told = stages[3][1] + told
            ahead = claims + (["pot v 5"] if late > 1 else []) + told
            for early in range(late):
                for row in stages[early][0]:
                    with self.subTest(row=row, ahead=ahead):
                        self.assert_row_refused(Misplaced, ahead + [row])
            read_deal(rows_text(*ahead, *([] if late >= 3 else ["order z", "rest a"])))

    def test_a_second_eat(self):
        self.assert_row_refused(Misplaced, ["pool p", "claim a 1 1", "claim b 1 1", "eat a", "eat b"])
        self.assert_row_refused(Misplaced, ["pool p", "claim a 1 1", "eat a", "eat a"])

    def test_a_part_behind_a_rule(self):
        ahead = ["pool p", "claim a 1 1", "claim b 1 1", "pot v 1", "order o", "part a 1"]
        for rule in ("pay a", "share a b", "repay a", "fill v", "lend q 1", "back q", "rest a"):
            self.assert_row_refused(Misplaced, ahead + [rule, "part b 1"])

    def test_parts_and_rules_where_no_order_is(self):
        for ahead in (["pool p"], ["pool p", "claim a 1 1"], ["pool p", "claim a 1 1", "pot v 1", "eat a"],
                      SMALL + ["pool q", "claim c 1 1"]):
            for row in ("part a 1", "pay a", "share a b", "repay a", "fill v", "lend q 1", "back q", "rest a"):
                self.assert_row_refused(Misplaced, ahead + [row])

    def test_behind_the_rest(self):
        for row in ("part a 1", "pay a", "share a b", "repay a", "fill v", "lend q 1", "back q", "rest a"):
            self.assert_row_refused(Misplaced, SMALL + [row])
            self.assert_row_refused(Misplaced, SMALL + ["order w", "rest a", row])

    def test_a_new_pool_begins_anew(self):
        rows = BASE + ["look a 1 o", "guard v a", "pool q", "claim c 1 1", "pot w 1", "eat c", "order o", "part c 1", "rest c"]
        self.assertEqual(len(read_deal(rows_text(*rows))), 2)


class UnfinishedRows(Reading):
    def test_an_order_without_a_rest(self):
        for ahead in (["order o"], ["order o", "part a 1"], ["order o", "part a 1", "pay a"],
                      ["order o", "rest a", "order w"], ["order o", "rest a", "order w", "lend q 1"]):
            for row in ("order y", "look a 1 o", "guard v a", "pool q"):
                self.assert_row_refused(Unfinished, ["pool p", "claim a 1 1", "pot v 1"] + ahead + [row])

    def test_a_pool_without_an_order(self):
        for ahead in (["pool p"], ["pool p", "claim a 1 1"], ["pool p", "claim a 1 1", "pot v 1", "eat a"],
                      SMALL + ["pool q"], SMALL + ["pool q", "claim c 1 1"]):
            for row in ("look a 1 o", "guard v a", "pool z"):
                self.assert_row_refused(Unfinished, ahead + [row])

    def test_a_pool_without_a_claim(self):
        for ahead in (["pool p"], ["pool p", "pot v 1"], SMALL + ["pool q"], SMALL + ["pool q", "pot v 1"]):
            for row in ("order w", "pool z"):
                self.assert_row_refused(Unfinished, ahead + [row])

    def test_behind_the_last_row(self):
        for rows in ([""], ["", ""], [" ", "", "  "], ["pool p"], ["pool p", "claim a 1 1"], ["pool p", "pot v 1"],
                     ["pool p", "claim a 1 1", "pot v 1", "eat a"], SMALL[:3], SMALL[:3] + ["pay a"],
                     SMALL[:3] + ["part a 1"], SMALL + ["order w"], SMALL + ["order w", "pay a"], SMALL + ["pool q"],
                     SMALL + ["pool q", "claim c 1 1"], SMALL + ["pool q", "claim c 1 1", "order o", "pay c"]):
            for behind in range(4):
                text = rows_text(*rows, *([""] * behind))
                self.assert_refused(Unfinished, len(rows) + behind, read_deal, text)

    def test_the_empty_text_and_line_ends_alone(self):
        for many in (0, 1, 2, 7, 399):
            self.assert_refused(Unfinished, many + 1, read_deal, "\n" * many)
            self.assert_refused(Unfinished, many + 1, read_deal, "  \n" * many)


class TwiceRows(Reading):
    def test_names_of_pools_claims_and_pots(self):
        ahead = ["pool p", "claim a 1 1", "pot v 1", "order o", "rest a", "pool q", "claim c 1 1"]
        for name in ("p", "a", "v", "q", "c"):
            self.assert_row_refused(Twice, ahead + [f"claim {name} 1 1"])
        for name in ("p", "a", "v", "q", "c", "w"):
            self.assert_row_refused(Twice, ahead + ["pot w 1", f"pot {name} 1"])
            self.assert_row_refused(Twice, ahead + ["pot w 1", "order o", "rest c", "pool " + name])

    def test_names_within_the_first_pool(self):
        self.assert_row_refused(Twice, ["pool p", "claim p 1 1"])
        self.assert_row_refused(Twice, ["pool p", "claim a 1 1", "claim a 1 1"])
        self.assert_row_refused(Twice, ["pool p", "claim a 1 1", "pot p 1"])
        self.assert_row_refused(Twice, ["pool p", "claim a 1 1", "pot a 1"])
        self.assert_row_refused(Twice, ["pool p", "claim a 1 1", "pot v 1", "pot v 1"])

    def test_names_of_orders(self):
        self.assert_row_refused(Twice, SMALL + ["order o"])
        self.assert_row_refused(Twice, SMALL + ["order w", "rest a", "order o"])
        self.assert_row_refused(Twice, SMALL + ["order w", "rest a", "order w"])

    def test_a_claim_twice_in_a_row(self):
        claims = ["pool p", "claim a 1 1", "claim b 1 1", "claim c 1 1"]
        for names in ("a a", "a b a", "b c c", "a b c b"):
            self.assert_row_refused(Twice, claims + ["eat " + names])
            self.assert_row_refused(Twice, claims + ["order o", "share " + names])

    def test_a_claim_in_two_parts_of_one_order(self):
        claims = ["pool p", "claim a 1 1", "claim b 1 1", "order o"]
        self.assert_row_refused(Twice, claims + ["part a 1", "part a 1"])
        self.assert_row_refused(Twice, claims + ["part a 1", "part b 1", "part a 2"])
        rows = claims + ["part a 1", "rest a", "order w", "part a 1", "rest b"]
        self.assertEqual([order[1] for order in read_deal(rows_text(*rows))[0][4]], [[("a", 1)], [("a", 1)]])

    def test_a_second_guard(self):
        self.assert_row_refused(Twice, BASE + ["guard v a", "guard v a"])
        ahead = ["pool p", "claim a 1 1", "pot v 1", "pot w 1", "order o", "rest a", "guard v a"]
        self.assert_row_refused(Twice, ahead + ["guard w a"])


class UnknownNames(Reading):
    def test_claims_pots_and_orders(self):
        claims = ["pool p", "claim a 1 1", "claim b 1 1", "pot v 1"]
        order = claims + ["order o"]
        whole = order + ["rest a"]
        for ahead, rows in (
            (claims, ("eat x", "eat a x", "eat p", "eat v", "eat x a")),
            (order, ("part x 1", "part v 1", "pay x", "pay v", "pay p", "pay o", "share a x", "share x a", "share a v",
                     "repay x", "repay v", "fill x", "fill a", "fill p", "rest x", "rest v", "rest o")),
            (whole, ("look x 1 o", "look a 1 x", "look v 1 o", "look a 1 a", "guard x a", "guard v x", "guard a a",
                     "guard v v", "guard a v")),
        ):
            for row in rows:
                self.assert_row_refused(NoName, ahead + [row])

    def test_what_another_pool_has(self):
        first = ["pool p", "claim a 1 1", "claim b 1 1", "pot v 1", "order one", "rest a"]
        second = first + ["pool q", "claim c 1 1", "claim d 1 1", "pot w 1"]
        order = second + ["order o"]
        whole = order + ["rest c"]
        for ahead, rows in (
            (second, ("eat a", "eat c a")),
            (order, ("part a 1", "pay a", "share a b", "share c b", "repay a", "fill v", "rest a")),
            (whole, ("look a 1 o", "look c 1 one", "guard v c", "guard w a")),
        ):
            for row in rows:
                self.assert_row_refused(NoName, ahead + [row])

    def test_a_claim_that_a_later_row_tells(self):
        self.assert_row_refused(NoName, ["pool p", "eat a"])
        self.assert_row_refused(NoName, SMALL + ["pool q", "claim c 1 1", "order o", "pay d", "rest c"], 8)


class UnguardedRows(Reading):
    def test_a_claim_of_a_share_or_a_repay(self):
        ahead = ["pool p", "claim a 1 1", "claim b 1 1", "claim c 1 1", "pot v 1"]
        for rules in (["order o", "share a b", "rest c"], ["order o", "share b a", "rest c"],
                      ["order o", "repay a", "rest a"], ["order o", "pay a", "rest a", "order w", "repay a", "rest a"],
                      ["order o", "share a c", "rest a", "order w", "rest a"]):
            self.assert_row_refused(Unguarded, ahead + rules + ["guard v a"])

    def test_a_claim_of_other_rules(self):
        ahead = ["pool p", "claim a 1 1", "claim b 1 1", "claim c 1 1", "pot v 1", "eat a"]
        rows = ahead + ["order o", "part a 1", "pay a", "share b c", "repay b", "rest a", "look a 1 o", "guard v a"]
        self.assertEqual(read_deal(rows_text(*rows))[0][6], [("v", "a")])


class TwoRefusals(Reading):
    """Of two refusals that are due for one row the first of the list wins."""

    def test_misplaced_first(self):
        self.assert_row_refused(Misplaced, ["pool p", "claim a 1 1", "order o", "claim p 1 1"])
        self.assert_row_refused(Misplaced, SMALL[:3] + ["pay a", "part x 1"])
        self.assert_row_refused(Misplaced, SMALL + ["eat a a"])
        self.assert_row_refused(Misplaced, BASE + ["guard v a", "look a 1 x"])
        self.assert_row_refused(Misplaced, BASE + ["guard v a", "order o"])
        self.assert_row_refused(Misplaced, ["pool p", "claim a 1 1", "eat a", "eat x x"])
        rows = ["pool p"] + [f"claim {name} 1 1" for name in named(6)] + ["pot v 1", "claim more 1 1"]
        self.assert_row_refused(Misplaced, rows)

    def test_unfinished_ahead_of_twice_noname_unguarded_and_toomany(self):
        self.assert_row_refused(Unfinished, ["pool p", "pool p"])
        self.assert_row_refused(Unfinished, ["pool p", "claim a 1 1", "order o", "order o"])
        self.assert_row_refused(Unfinished, ["pool p", "claim a 1 1", "order o", "look x 1 x"])
        self.assert_row_refused(Unfinished, ["pool p", "claim a 1 1", "pot v 1", "order o", "repay a", "guard v a"])
        ahead = ["pool p", "claim a 1 1"]
        for name in named(5):
            ahead += ["order " + name, "rest a"]
        self.assert_row_refused(Unfinished, ahead[:-1] + ["order more"])

    def test_twice_ahead_of_noname_unguarded_and_toomany(self):
        self.assert_row_refused(Twice, ["pool p", "claim a 1 1", "eat x x"])
        self.assert_row_refused(Twice, ["pool p", "claim a 1 1", "order o", "share x x"])
        self.assert_row_refused(Twice, BASE + ["guard v a", "guard x a"])
        rows = ["pool p"] + [f"claim {name} 1 1" for name in named(6)]
        self.assert_row_refused(Twice, rows + ["claim xa 1 1"])
        self.assert_row_refused(Twice, rows + ["order o"] + [f"part {name} 1" for name in named(6)] + ["part xf 1"])
        rules = ["order o"] + ["pay xa"] * 8
        self.assert_row_refused(Twice, rows + rules + ["share xa xa"])
        pots = ["pool p", "claim a 1 1"] + [f"pot {name} 1" for name in named(3)]
        self.assert_row_refused(Twice, pots + ["pot a 1"])
        orders = ["pool p", "claim a 1 1"]
        for name in named(5):
            orders += ["order " + name, "rest a"]
        self.assert_row_refused(Twice, orders + ["order xa"])

    def test_noname_ahead_of_unguarded_and_toomany(self):
        self.assert_row_refused(NoName, ["pool p", "claim a 1 1", "order o", "repay a", "rest a", "guard x a"])
        self.assert_row_refused(NoName, SMALL + ["look a 1 o"] * 4 + ["look a 1 x"])
        self.assert_row_refused(NoName, SMALL[:3] + ["pay a"] * 8 + ["fill x"])
        self.assert_row_refused(NoName, SMALL[:3] + ["pay a"] * 8 + ["rest x"])

    def test_unguarded_ahead_of_toomany(self):
        rows = ["pool p"] + [f"claim {name} 1 1" for name in named(4)] + ["pot v 1", "order o", "repay xd", "rest xa"]
        rows += ["guard v " + name for name in named(3)]
        self.assert_row_refused(Unguarded, rows + ["guard v xd"])

    def test_a_seventh_pool(self):
        ahead = []
        for name in named(6):
            ahead += ["pool " + name, f"claim c{name} 1 1", "order o", "rest c" + name]
        self.assert_row_refused(Twice, ahead + ["pool xa"])
        self.assert_row_refused(Unfinished, ahead[:-1] + ["pool more"])
        self.assert_row_refused(BadRow, ahead + ["pool pool"])

    def test_of_two_rows_the_first(self):
        good = BASE + ["look a 1 o", "guard v a"]
        faults = ["what", "rest a", "order w", "pool p", "look x 1 o"]
        expected = {}
        for row in faults:
            with self.assertRaises(ValueError) as caught:
                read_deal(rows_text(*good, row))
            expected[row] = type(caught.exception)
        self.assertEqual(list(expected.values()), [BadRow, Misplaced, Misplaced, Twice, Misplaced])
        for first in faults:
            for second in faults:
                self.assert_refused(expected[first], len(good) + 1, read_deal, rows_text(*good, first, second))


class Lends(Reading):
    def deal(self, *rules):
        return ["pool p", "claim a 1 1", "order o"] + list(rules) + [
            "rest a", "pool q", "claim b 1 1", "order o", "rest b"]

    def test_no_pool_of_the_deal(self):
        for rule in ("lend x 5", "back x", "lend a 5", "back b", "lend o 1", "back o"):
            self.assert_refused(NoName, 4, read_deal, rows_text(*self.deal(rule)))
            self.assert_refused(NoName, 5, read_deal, rows_text(*self.deal("lend q 1", rule)))
            self.assert_refused(NoName, 6, read_deal, rows_text("", *self.deal("back q", rule), ""))

    def test_its_own_pool(self):
        for rule in ("lend p 5", "back p"):
            self.assert_refused(NoName, 4, read_deal, rows_text(*self.deal(rule)))
        rows = self.deal("lend q 1") + ["order w", "back q", "rest b"]
        self.assert_refused(NoName, len(rows) - 1, read_deal, rows_text(*rows))

    def test_the_first_of_several(self):
        self.assert_refused(NoName, 4, read_deal, rows_text(*self.deal("back x", "lend y 1", "lend p 1")))
        self.assert_refused(NoName, 5, read_deal, rows_text(*self.deal("back q", "lend p 1", "lend y 1")))

    def test_only_where_nothing_else_is_refused(self):
        rows = self.deal("lend x 5")
        self.assert_refused(BadRow, len(rows) + 1, read_deal, rows_text(*rows, "what"))
        self.assert_refused(Twice, len(rows) + 1, read_deal, rows_text(*rows, "order o"))
        self.assert_refused(Unfinished, len(rows) + 1, read_deal, rows_text(*rows, "order w"))
        self.assert_refused(Unfinished, len(rows) + 2, read_deal, rows_text(*rows, "order w", ""))
        self.assert_refused(Unfinished, len(rows) - 1, read_deal, rows_text(*rows[:-1]))
        self.assert_refused(TooMany, 12, read_deal, rows_text(*self.deal("lend x 5", *["pay a"] * 8)))

    def test_pools_alone_count(self):
        self.assert_refused(NoName, 4, read_deal, rows_text("pool p", "claim a 1 1", "order o", "lend q 1", "rest a"))


class Same(Reading):
    def test_refusals_and_answers_change_nothing_later(self):
        good = rows_text(*GREAT)
        for rows in (GREAT[:5], GREAT + ["order usual"], ["what"], []):
            self.assertRaises(ValueError, read_deal, rows_text(*rows))
            self.assertEqual(read_deal(good), GREAT_DEAL)


if __name__ == "__main__":
    unittest.main()
