"""Promises [2] to [4], [9], [10]: what is read of a debts' text, and what is refused."""

import unittest

from tests.helper import Asking, rows_text
from tranchefall.debtreader import read_debts
from tranchefall.errors import BadRow, Misplaced, NoName, TooMany, Twice, Unfinished

ROWS = [
    "debt ann first", "on 1 100", "on 7 5", "on 60 1000000000000",
    "debt bob other", "on 3 1",
    "debt cid first", "on 60 7",
    "quit bob 9", "late ann 60 30", "early ann 1", "late ann 1 1", "quit bob 9",
]
READ = (
    [("ann", "first", [(1, 100), (7, 5), (60, 10 ** 12)]), ("bob", "other", [(3, 1)]), ("cid", "first", [(60, 7)])],
    [("quit", "bob", 9), ("late", "ann", 60, 30), ("early", "ann", 1), ("late", "ann", 1, 1), ("quit", "bob", 9)],
)


def named(many):
    return ["x" + first + second for first in "abcdefgh" for second in "abcdefgh"][:many]


def debts(many):
    return [row for name in named(many) for row in (f"debt {name} p", "on 5 5")]


class Reading(Asking, unittest.TestCase):
    def assert_row_refused(self, refusal, rows):
        for behind in ([], ["debt zz p"], ["what"], [""], ["on 60 1"]):
            self.assert_refused(refusal, len(rows), read_debts, rows_text(*rows, *behind))
        spaced = [row for one in rows for row in ("", one)]
        self.assert_refused(refusal, 2 * len(rows), read_debts, rows_text(*spaced, "debt zz p"))


class Debts(Reading):
    def test_all_sorts_of_rows(self):
        told = self.assert_own(read_debts, rows_text(*ROWS))
        self.assertEqual(told, READ)
        self.assertIs(type(told), tuple)
        self.assertEqual([type(one) for one in told], [list, list])
        self.assertEqual({type(one) for one in told[0] + told[1]}, {tuple})
        self.assertEqual({type(day) for debt in told[0] for day in debt[2]}, {tuple})
        self.assertEqual({type(debt[2]) for debt in told[0]}, {list})
        self.assert_plain(told)

    def test_blanks_and_rows_without_a_word(self):
        rows = [row for one in ROWS for row in ("", "  " + one.replace(" ", "   ") + "   ", " ")]
        self.assertEqual(read_debts(rows_text(*rows)), READ)
        self.assertEqual(read_debts(rows_text(*ROWS, "", "")), READ)

    def test_no_debts(self):
        for text in ("", "\n", " \n\n  "):
            self.assertEqual(self.assert_own(read_debts, text), ([], []))

    def test_debts_without_events(self):
        self.assertEqual(read_debts(rows_text(*ROWS[:8])), (READ[0], []))

    def test_names_of_debts_and_pools_have_nothing_to_do_with_one_another(self):
        told = read_debts(rows_text("debt a a", "on 1 1", "debt b a", "on 1 1", "debt c b", "on 1 1"))
        self.assertEqual([(debt[0], debt[1]) for debt in told[0]], [("a", "a"), ("b", "a"), ("c", "b")])


class Bounds(Reading):
    def test_days_of_a_plan(self):
        for first in (1, 49):
            rows = ["debt a p"] + [f"on {first + day} 1" for day in range(12)]
            self.assertEqual(len(read_debts(rows_text(*rows))[0][0][2]), 12)
        rows = ["debt a p"] + [f"on {1 + day} 1" for day in range(12)]
        self.assert_row_refused(TooMany, rows + ["on 13 1"])
        self.assert_row_refused(TooMany, ["debt b p", "on 60 1"] + rows + ["on 13 1"])
        two = rows + ["debt b p"] + [f"on {1 + day} 1" for day in range(12)]
        self.assertEqual([len(debt[2]) for debt in read_debts(rows_text(*two))[0]], [12, 12])

    def test_debts(self):
        self.assertEqual(len(read_debts(rows_text(*debts(30)))[0]), 30)
        self.assert_row_refused(TooMany, debts(30) + ["debt more p"])

    def test_events(self):
        rows = debts(2) + ["late xaa 1 1", "early xab 2", "quit xaa 3"] * 20
        self.assertEqual(len(read_debts(rows_text(*rows))[1]), 60)
        for more in ("late xaa 1 1", "early xab 2", "quit xaa 3"):
            self.assert_row_refused(TooMany, rows + [more])

    def test_numbers(self):
        told = read_debts(rows_text("debt a p", "on 1 1", "on 60 1000000000000", "late a 60 30", "late a 1 1"))
        self.assertEqual(told[0][0][2], [(1, 1), (60, 10 ** 12)])
        ahead = ["debt a p", "on 1 1"]
        for row in ("on 0 1", "on 61 1", "on 2 0", "on 2 1000000000001", "late a 0 1", "late a 61 1", "late a 1 0",
                    "late a 1 31", "early a 0", "early a 61", "quit a 0", "quit a 61"):
            self.assert_row_refused(BadRow, ahead + [row])


class Refusals(Reading):
    def test_bad_rows_at_each_place(self):
        for at in range(len(ROWS) + 1):
            for row in ("what", "debt a", "on 1", "late a 1", "pool p", "debt on p", "debt a on", "early A 1"):
                self.assert_refused(BadRow, at + 1, read_debts, rows_text(*ROWS[:at], row, *ROWS[at:]))

    def test_misplaced(self):
        self.assert_row_refused(Misplaced, ["on 1 1"])
        self.assert_row_refused(Misplaced, ["", "on 1 1"])
        for event in ("late a 1 1", "early a 1", "quit a 1"):
            self.assert_row_refused(Misplaced, ["debt a p", "on 1 1", event, "on 2 1"])
            self.assert_row_refused(Misplaced, ["debt a p", "on 1 1", event, "debt b p"])

    def test_unfinished(self):
        for row in ("debt b p", "late a 1 1", "early a 1", "quit a 1"):
            self.assert_row_refused(Unfinished, ["debt a p", row])
            self.assert_row_refused(Unfinished, ["debt c p", "on 1 1", "debt a p", row])

    def test_unfinished_behind_the_last_row(self):
        for rows in (["debt a p"], ["", "debt a p"], ["debt b p", "on 1 1", "debt a p"]):
            for behind in range(4):
                text = rows_text(*rows, *([" "] * behind))
                self.assert_refused(Unfinished, len(rows) + behind, read_debts, text)

    def test_twice(self):
        self.assert_row_refused(Twice, ["debt a p", "on 1 1", "debt a p"])
        self.assert_row_refused(Twice, ["debt a p", "on 1 1", "debt b p", "on 1 1", "debt a q"])
        for day in (1, 4, 5):
            self.assert_row_refused(Twice, ["debt a p", "on 5 1", f"on {day} 1"])
            self.assert_row_refused(Twice, ["debt a p", "on 3 1", "on 5 1", f"on {day} 2"])
        told = read_debts(rows_text("debt a p", "on 5 1", "on 6 1", "debt b p", "on 1 1"))
        self.assertEqual([debt[2] for debt in told[0]], [[(5, 1), (6, 1)], [(1, 1)]])

    def test_no_name(self):
        for event in ("late x 1 1", "early x 1", "quit x 1", "early p 1"):
            self.assert_row_refused(NoName, [event])
            self.assert_row_refused(NoName, ["debt a p", "on 1 1", event])
            self.assert_row_refused(NoName, ["debt a p", "on 1 1", "quit a 1", event])


class TwoRefusals(Reading):
    def test_bad_row_first(self):
        self.assert_row_refused(BadRow, ["on 0 1"])
        self.assert_row_refused(BadRow, ["debt a p", "late x 1 31"])
        self.assert_row_refused(BadRow, ["debt a p", "on 1 1", "quit a 1", "on 2 0"])

    def test_misplaced_ahead_of_twice_and_toomany(self):
        self.assert_row_refused(Misplaced, ["debt a p", "on 1 1", "quit a 1", "debt a p"])
        self.assert_row_refused(Misplaced, ["debt a p", "on 1 1", "quit a 1", "on 1 1"])
        self.assert_row_refused(Misplaced, debts(30) + ["quit xaa 1", "debt more p"])

    def test_unfinished_ahead_of_twice_noname_and_toomany(self):
        self.assert_row_refused(Unfinished, ["debt a p", "debt a p"])
        self.assert_row_refused(Unfinished, ["debt a p", "early x 1"])
        self.assert_row_refused(Unfinished, debts(30)[:-1] + ["debt more p"])

    def test_twice_ahead_of_toomany(self):
        rows = ["debt a p"] + [f"on {1 + day} 1" for day in range(12)]
        self.assert_row_refused(Twice, rows + ["on 12 1"])
        self.assert_row_refused(Twice, debts(30) + ["debt xaa p"])

    def test_noname_ahead_of_toomany(self):
        self.assert_row_refused(NoName, debts(1) + ["quit xaa 1"] * 60 + ["quit x 1"])

    def test_of_two_rows_the_first(self):
        good = ["debt a p", "on 1 1", "quit a 1"]
        faults = {"what": BadRow, "on 2 1": Misplaced, "debt b p": Misplaced, "early x 1": NoName}
        for first in faults:
            for second in faults:
                self.assert_refused(faults[first], 4, read_debts, rows_text(*good, first, second))

    def test_answers_between_refusals(self):
        for rows in (ROWS[:5], ROWS + ["on 1 1"], ["what"]):
            self.assertRaises(ValueError, read_debts, rows_text(*rows))
            self.assertEqual(read_debts(rows_text(*ROWS)), READ)


if __name__ == "__main__":
    unittest.main()
