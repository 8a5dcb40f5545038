"""Promises [2], [4], [9]: the rows of a debts' text."""

import unittest

from tests.helper import Asking
from tranchefall.debtrows import debt_row_of
from tranchefall.errors import BadRow

MOST = 10 ** 12
# For each form a row, and the greatest number at each place where a number stands.
FORMS = {
    "debt": ("debt ab cd", {}),
    "on": ("on 7 8", {1: 60, 2: MOST}),
    "late": ("late ab 7 8", {2: 60, 3: 30}),
    "early": ("early ab 7", {2: 60}),
    "quit": ("quit ab 7", {2: 60}),
}
KEYWORDS = (
    "pool claim pot eat order part pay share repay fill lend back rest look guard"
    " debt on late early quit"
).split()
NO_NAMES = ("A", "aB", "abcdefghi", "a1", "1a", "a-b", "_", ".", "~", "0", "1", "a\t")
NO_NUMBERS = ("00", "01", "+1", "-1", "1.0", "1_0", "1a", "x", "one", "0", "1" * 14, "\u0661", "1\t")


def told_of(words, tops):
    return [int(word) if at in tops else word for at, word in enumerate(words)]


class DebtRows(Asking, unittest.TestCase):
    def assert_told(self, row, expected):
        with self.subTest(row=row):
            told = self.assert_own(debt_row_of, row, 1)
            self.assertIs(type(told), list)
            self.assertEqual(told, expected)
            self.assertEqual([type(word) for word in told], [type(word) for word in expected])

    def assert_bad(self, row, place=3):
        with self.subTest(row=row):
            self.assert_refused(BadRow, place, debt_row_of, row, place)

    def changed(self):
        """Each word behind the first of each form: the words, the place, and the greatest number or None."""
        for row, tops in FORMS.values():
            words = row.split()
            for at in range(1, len(words)):
                yield words, at, tops.get(at)

    def test_each_form(self):
        self.assert_told("debt ab cd", ["debt", "ab", "cd"])
        self.assert_told("on 7 8", ["on", 7, 8])
        self.assert_told("late ab 7 8", ["late", "ab", 7, 8])
        self.assert_told("early ab 7", ["early", "ab", 7])
        self.assert_told("quit ab 7", ["quit", "ab", 7])

    def test_one_name_for_both(self):
        self.assert_told("debt ab ab", ["debt", "ab", "ab"])

    def test_blanks(self):
        for row, tops in FORMS.values():
            self.assert_told("   " + row.replace(" ", "     ") + "  ", told_of(row.split(), tops))

    def test_rows_without_a_word(self):
        for many in (0, 1, 5, 200):
            self.assertIsNone(debt_row_of(" " * many, 1))

    def test_ends_of_the_ranges(self):
        for words, at, top in self.changed():
            if top is not None:
                for number in (1, 2, top - 1, top):
                    row = words[:at] + [str(number)] + words[at + 1:]
                    self.assert_told(" ".join(row), told_of(row, FORMS[words[0]][1]))
                for number in (0, top + 1, top * 10, 10 ** 13 - 1):
                    self.assert_bad(" ".join(words[:at] + [str(number)] + words[at + 1:]))

    def test_what_is_no_name_or_no_number(self):
        for words, at, top in self.changed():
            for word in KEYWORDS + list(NO_NAMES if top is None else NO_NUMBERS):
                self.assert_bad(" ".join(words[:at] + [word] + words[at + 1:]))

    def test_words_too_few_and_too_many(self):
        for words, at, _ in self.changed():
            self.assert_bad(" ".join(words[:at] + words[at + 1:]))
            for more in ("x", "1"):
                self.assert_bad(" ".join(words[:at] + [more] + words[at:]))
                self.assert_bad(" ".join(words + [more]))
        for kind in FORMS:
            self.assert_bad(kind)

    def test_other_first_words(self):
        for row in ("pool a", "claim a 1 1", "pot a 1", "eat a", "order a", "part a 1", "pay a", "share a b", "repay a",
                    "fill a", "lend a 1", "back a", "rest a", "look a 1 b", "guard a b", "what", "x a b", "Debt a b",
                    "ON 1 1", "7", "debts a b", "debtab"):
            self.assert_bad(row)

    def test_the_place_is_the_number_handed_in(self):
        for place in (1, 2, 400, 10 ** 30):
            self.assert_bad("on 61 1", place)
            self.assert_bad("what", place)


if __name__ == "__main__":
    unittest.main()
