"""Promises [2], [4], [5]: the rows of a deal's text."""

import unittest

from tranchefall.errors import BadRow
from tranchefall.rows import row_of

MOST = 10 ** 12
KEYWORDS = (
    "pool claim pot eat order part pay share repay fill lend back rest look guard"
    " debt on late early quit"
).split()
# For each form a row, and the greatest number at each place where a number stands.
FORMS = {
    "pool": ("pool ab", {}),
    "claim": ("claim ab 5 6", {2: MOST, 3: MOST}),
    "pot": ("pot ab 7", {2: MOST}),
    "eat": ("eat ab", {}),
    "order": ("order ab", {}),
    "part": ("part ab 3", {2: 10}),
    "pay": ("pay ab", {}),
    "share": ("share ab cd", {}),
    "repay": ("repay ab", {}),
    "fill": ("fill ab", {}),
    "lend": ("lend ab 8", {2: MOST}),
    "back": ("back ab", {}),
    "rest": ("rest ab", {}),
    "look": ("look ab 4 cd", {2: 9}),
    "guard": ("guard ab cd", {}),
}
NO_NUMBERS = (
    "00", "01", "007", "+1", "-1", "1.0", "1_0", "1a", "a1", "x", "1e1", "one", "0x1",
    "10000000000000", "9" * 14, "1" * 20, "\u0661", "\u00b2", "1\t",
)
NO_NAMES = (
    "A", "aB", "abcdefghi", "a1", "1a", "a-b", "a_b", "_", "-", ".", "a.", "*", "~", "#", "\xe9", "a\t",
    "0", "1", "5", "12", str(MOST),
)


def words_of(kind):
    return FORMS[kind][0].split()


def told_of(words, tops):
    return [int(word) if at in tops else word for at, word in enumerate(words)]


class RowTest(unittest.TestCase):
    def assert_told(self, row, expected):
        with self.subTest(row=row):
            told = row_of(row, 1)
            self.assertIs(type(told), list)
            self.assertEqual(told, expected)
            self.assertEqual([type(word) for word in told], [type(word) for word in expected])

    def assert_bad(self, row, place=3):
        with self.subTest(row=row):
            with self.assertRaises(BadRow) as caught:
                row_of(row, place)
            self.assertIs(type(caught.exception), BadRow)
            self.assertEqual(caught.exception.place, place)


class Forms(RowTest):
    def test_there_are_fifteen(self):
        self.assertEqual(len(FORMS), 15)

    def test_each_form(self):
        for row, tops in FORMS.values():
            self.assert_told(row, told_of(row.split(), tops))

    def test_each_form_as_written_out(self):
        self.assert_told("pool ab", ["pool", "ab"])
        self.assert_told("claim ab 5 6", ["claim", "ab", 5, 6])
        self.assert_told("pot ab 7", ["pot", "ab", 7])
        self.assert_told("eat ab cd", ["eat", "ab", "cd"])
        self.assert_told("order ab", ["order", "ab"])
        self.assert_told("part ab 3", ["part", "ab", 3])
        self.assert_told("pay ab", ["pay", "ab"])
        self.assert_told("share ab cd", ["share", "ab", "cd"])
        self.assert_told("repay ab", ["repay", "ab"])
        self.assert_told("fill ab", ["fill", "ab"])
        self.assert_told("lend ab 8", ["lend", "ab", 8])
        self.assert_told("back ab", ["back", "ab"])
        self.assert_told("rest ab", ["rest", "ab"])
        self.assert_told("look ab 4 cd", ["look", "ab", 4, "cd"])
        self.assert_told("guard ab cd", ["guard", "ab", "cd"])

    def test_blanks_between_ahead_and_behind(self):
        for row, tops in FORMS.values():
            words = row.split()
            told = told_of(words, tops)
            for between in (" ", "  ", "       "):
                for ahead in ("", " ", "    "):
                    for behind in ("", " ", "   "):
                        self.assert_told(ahead + between.join(words) + behind, told)

    def test_words_that_are_not_parted(self):
        for kind in FORMS:
            words = words_of(kind)
            self.assert_bad("".join(words))
            for sign in ("\t", ",", "_", "\n"):
                self.assert_bad(sign.join(words))

    def test_long_rows(self):
        self.assert_told("pool" + " " * 195 + "a", ["pool", "a"])
        self.assert_told(" " * 190 + "pool a", ["pool", "a"])

    def test_the_place_changes_nothing_told(self):
        for place in (1, 2, 400):
            self.assertEqual(row_of("lend b 8", place), ["lend", "b", 8])


class RowsWithoutAWord(unittest.TestCase):
    def test_no_signs_and_blanks_alone(self):
        for many in (0, 1, 2, 200):
            self.assertIsNone(row_of(" " * many, 1))


class NumbersInRows(RowTest):
    def numbered(self):
        for kind, (row, tops) in FORMS.items():
            for at, top in tops.items():
                yield row.split(), tops, at, top

    def test_the_numbers_that_stand_in_rows(self):
        self.assertEqual(len(list(self.numbered())), 6)

    def test_both_ends(self):
        for words, tops, at, top in self.numbered():
            for number in (1, 2, top - 1, top):
                row = words[:at] + [str(number)] + words[at + 1:]
                self.assert_told(" ".join(row), told_of(row, tops))

    def test_all_small_ranges(self):
        for number in range(0, 13):
            expect_part = self.assert_told if 1 <= number <= 10 else self.assert_bad
            expect_look = self.assert_told if 1 <= number <= 9 else self.assert_bad
            expect_part(f"part a {number}", ["part", "a", number])
            expect_look(f"look a {number} o", ["look", "a", number, "o"])

    def test_beyond_both_ends(self):
        for words, _, at, top in self.numbered():
            for number in (0, top + 1, top + 2, top * 9, 10 ** 13 - 1):
                self.assert_bad(" ".join(words[:at] + [str(number)] + words[at + 1:]))

    def test_what_is_no_number(self):
        for words, _, at, _ in self.numbered():
            for word in NO_NUMBERS + tuple(KEYWORDS):
                self.assert_bad(" ".join(words[:at] + [word] + words[at + 1:]))


class NamesInRows(RowTest):
    def named(self):
        for kind, (row, tops) in FORMS.items():
            words = row.split()
            for at in range(1, len(words)):
                if at not in tops:
                    yield words, tops, at

    def test_what_is_no_name(self):
        for words, _, at in self.named():
            for word in NO_NAMES:
                self.assert_bad(" ".join(words[:at] + [word] + words[at + 1:]))

    def test_keywords(self):
        for words, _, at in self.named():
            for word in KEYWORDS:
                self.assert_bad(" ".join(words[:at] + [word] + words[at + 1:]))

    def test_names_short_and_long_and_with_a_keyword_within(self):
        for words, tops, at in self.named():
            for word in ("a", "z", "abcdefgh", "pools", "xclaim", "ona", "o"):
                row = words[:at] + [word] + words[at + 1:]
                self.assert_told(" ".join(row), told_of(row, tops))

    def test_a_name_beyond_the_second_of_eat_and_share(self):
        names = ["a", "b", "c", "d", "e", "f"]
        for kind in ("eat", "share"):
            for at in range(6):
                for word in ("pool", "7", "A", "abcdefghi"):
                    self.assert_bad(" ".join([kind] + names[:at] + [word] + names[at + 1:]))


class ManyWords(RowTest):
    def test_a_word_too_few(self):
        for kind in FORMS:
            words = words_of(kind)
            for at in range(1, len(words)):
                self.assert_bad(" ".join(words[:at] + words[at + 1:]))

    def test_the_first_word_alone(self):
        for kind in FORMS:
            self.assert_bad(kind)
            self.assert_bad("  " + kind + " ")

    def test_a_word_too_many(self):
        for kind in FORMS:
            if kind in ("eat", "share"):
                continue
            words = words_of(kind)
            for more in ("x", "1", "pool", "#"):
                for at in range(1, len(words) + 1):
                    self.assert_bad(" ".join(words[:at] + [more] + words[at:]))
            self.assert_bad(" ".join(words + ["x", "y"]))

    def test_how_many_names_eat_and_share_take(self):
        for kind, least in (("eat", 1), ("share", 2)):
            for many in range(0, 10):
                words = [kind] + list("abcdefghij"[:many])
                if least <= many <= 6:
                    self.assert_told(" ".join(words), words)
                else:
                    self.assert_bad(" ".join(words))

    def test_one_name_twice_is_not_this_refusal(self):
        self.assert_told("eat a a", ["eat", "a", "a"])
        self.assert_told("share a a", ["share", "a", "a"])
        self.assert_told("guard a a", ["guard", "a", "a"])
        self.assert_told("look a 1 a", ["look", "a", 1, "a"])


class FirstWords(RowTest):
    def test_unknown_first_words(self):
        for first in ("x", "pools", "poo", "xpool", "name", "twice", "1", "0", "#", "~", "pool:"):
            for behind in ("", " a", " a b", " a 1", " a 1 1", " a 1 b"):
                self.assert_bad(first + behind)

    def test_keywords_of_debts(self):
        for row in ("debt a b", "on 1 5", "late a 1 1", "early a 1", "quit a 1", "on", "quit"):
            self.assert_bad(row)

    def test_a_great_letter(self):
        for kind in FORMS:
            words = words_of(kind)
            for at in range(len(kind)):
                first = kind[:at] + kind[at].upper() + kind[at + 1:]
                self.assert_bad(" ".join([first] + words[1:]))
            self.assert_bad(" ".join([kind.upper()] + words[1:]))

    def test_words_in_another_order(self):
        for row in ("ab pool", "claim 5 ab 6", "claim 5 6 ab", "pot 7 ab", "part 3 ab", "look ab cd 4", "lend 8 ab"):
            self.assert_bad(row)


class Places(RowTest):
    def test_the_place_is_the_number_handed_in(self):
        for place in (1, 2, 17, 399, 400, 401, 10 ** 30):
            for row in ("x", "pool", "pool A", "pot a 0", "share a", "eat", "claim a 1 1 1"):
                self.assert_bad(row, place)


class Own(unittest.TestCase):
    def test_a_changed_answer_changes_no_later_one(self):
        for row, tops in FORMS.values():
            told = row_of(row, 1)
            expected = list(told)
            told[0] = "changed"
            told.append("more")
            again = row_of(row, 1)
            self.assertEqual(again, expected)
            again.clear()
            self.assertEqual(row_of(row, 2), expected)

    def test_no_two_told_lists_are_the_same(self):
        for row, tops in FORMS.values():
            self.assertIsNot(row_of(row, 1), row_of(row, 1))

    def test_the_same_refusal_each_time(self):
        for row in ("pool", "pool A", "part a 11"):
            for place in (5, 6, 5):
                with self.assertRaises(BadRow) as caught:
                    row_of(row, place)
                self.assertEqual(caught.exception.place, place)

    def test_answers_between_refusals(self):
        for row, tops in FORMS.values():
            expected = row_of(row, 1)
            self.assertRaises(BadRow, row_of, row + " 0", 2)
            self.assertIsNone(row_of("", 3))
            self.assertEqual(row_of(row, 4), expected)


if __name__ == "__main__":
    unittest.main()
