"""Promises [2], [8]: a deal as a text."""

import unittest

from tests.helper import Asking, Making, rows_text
from tranchefall.reader import read_deal
from tranchefall.showing import shown_deal

ROWS = [
    "pool first", "claim a 100 5", "claim b 50 6", "claim c 7 1000000000000", "pot till 20", "pot jar 1", "eat c b",
    "order usual", "part b 3", "part a 10", "pay a", "share c b", "repay b", "fill till", "lend last 40", "back last",
    "rest c", "order turned", "rest a", "look b 2 turned", "look a 9 usual", "guard till a",
    "pool last", "claim e 2 3", "order usual", "pay e", "rest e",
]


class Shown(Asking, unittest.TestCase):
    def test_sign_by_sign(self):
        text = rows_text(*ROWS)
        self.assertEqual(shown_deal(read_deal(text)), text)

    def test_a_deal_written_out(self):
        deal = [
            ("p", [("a", 10, 2), ("b", 3, 4)], [("v", 5)], ["b", "a"],
             [("o", [("a", 3)], [("share", ("b", "a")), ("lend", "q", 7), ("back", "q"), ("fill", "v"), ("rest", "b")]),
              ("w", [], [("pay", "a"), ("repay", "b"), ("rest", "a")])],
             [("a", 2, "w")], [("v", "a")]),
            ("q", [("c", 1, 1)], [], [], [("o", [], [("rest", "c")])], [], []),
        ]
        self.assertEqual(shown_deal(deal), (
            "pool p\nclaim a 10 2\nclaim b 3 4\npot v 5\neat b a\norder o\npart a 3\nshare b a\nlend q 7\nback q\n"
            "fill v\nrest b\norder w\npay a\nrepay b\nrest a\nlook a 2 w\nguard v a\n"
            "pool q\nclaim c 1 1\norder o\nrest c"
        ))

    def test_no_eat_row_for_an_empty_list(self):
        text = shown_deal(read_deal("pool p\nclaim a 1 1\norder o\nrest a"))
        self.assertEqual(text, "pool p\nclaim a 1 1\norder o\nrest a")

    def test_blanks_and_rows_without_a_word_are_gone(self):
        text = "\n".join("\n  " + row.replace(" ", "   ") + " " for row in ROWS) + "\n\n"
        self.assertEqual(shown_deal(read_deal(text)), rows_text(*ROWS))

    def test_what_is_shown_is_read_to_the_same_deal(self):
        for seed in range(200):
            deal = Making(seed).deal()
            text = shown_deal(deal)
            self.assertEqual(read_deal(text), deal)
            self.assertEqual(shown_deal(read_deal(text)), text)
            self.assertNotIn("  ", text)
            for row in text.split("\n"):
                self.assertEqual(row, row.strip())
                self.assertNotEqual(row, "")

    def test_own(self):
        self.assert_own(shown_deal, read_deal(rows_text(*ROWS)))
        for seed in range(20):
            self.assert_own(shown_deal, Making(seed).deal())


if __name__ == "__main__":
    unittest.main()
