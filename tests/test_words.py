"""Promise [4]: names, numbers, keywords and the words of a row."""

import string
import unittest

from tranchefall.words import is_name, number_in, words_in

KEYWORDS = (
    "pool claim pot eat order part pay share repay fill lend back rest look guard"
    " debt on late early quit"
).split()
# All signs of a text but those that the test at hand lets stand.
SIGNS = "".join(chr(code) for code in range(ord(" "), ord("~") + 1))
ODD_SIGNS = "\t\n\r\x0b\x0c\x00\x7f\xa0\xe9\u0131\u0430\u0661\u00b2\uff11\uff41"


def with_sign(word, sign):
    """The word with a sign put in at each place, and in place of each sign."""
    for at in range(len(word) + 1):
        yield word[:at] + sign + word[at:]
    for at in range(len(word)):
        yield word[:at] + sign + word[at + 1:]


class Names(unittest.TestCase):
    def assert_name(self, word, expected):
        with self.subTest(word=word):
            self.assertIs(is_name(word), expected)
            self.assertIs(is_name(word), expected)

    def test_one_to_eight_small_letters(self):
        for many in range(1, 9):
            self.assert_name("a" * many, True)
            self.assert_name("z" * many, True)
        for letter in string.ascii_lowercase:
            self.assert_name(letter, True)
        self.assert_name("abcdefgh", True)
        self.assert_name("qrstuvwx", True)

    def test_empty_text_and_too_long(self):
        self.assert_name("", False)
        for many in (9, 10, 16, 200):
            self.assert_name("a" * many, False)
        self.assert_name("abcdefghi", False)

    def test_another_sign_at_any_place(self):
        others = [sign for sign in SIGNS + ODD_SIGNS if sign not in string.ascii_lowercase]
        self.assertIn("A", others)
        self.assertIn("0", others)
        self.assertIn(" ", others)
        for sign in others:
            self.assert_name(sign, False)
            for word in with_sign("abc", sign):
                self.assert_name(word, False)
            for word in with_sign("abcdefg", sign):
                self.assert_name(word, False)

    def test_signs_beside_the_letters(self):
        self.assert_name("`", False)
        self.assert_name("{", False)

    def test_keywords(self):
        self.assertEqual(len(set(KEYWORDS)), 20)
        for word in KEYWORDS:
            self.assert_name(word, False)

    def test_words_that_only_hold_a_keyword(self):
        for word in KEYWORDS:
            for longer in (word + "x", "x" + word, word + "s", "a" + word, "x" + word + "x"):
                self.assert_name(longer, True)
            for longer in (word + word)[:8], (word + "on")[:8]:
                self.assert_name(longer, True)

    def test_words_that_are_a_piece_of_a_keyword(self):
        for word in KEYWORDS:
            for piece in (word[:-1], word[1:]):
                self.assert_name(piece, piece not in KEYWORDS)

    def test_great_keywords_and_other_words(self):
        for word in KEYWORDS:
            self.assert_name(word.upper(), False)
        for word in ("twice", "never", "ring", "once", "no", "kill", "name", "deal"):
            self.assert_name(word, True)


class Numbers(unittest.TestCase):
    def assert_number(self, word, expected):
        with self.subTest(word=word):
            for told in (number_in(word), number_in(word)):
                self.assertEqual(told, expected)
                self.assertIs(type(told), type(expected))

    def test_nought(self):
        self.assert_number("0", 0)

    def test_one_to_thirteen_figures(self):
        for figure in "123456789":
            self.assert_number(figure, int(figure))
        for many in range(1, 14):
            self.assert_number("9" * many, 10 ** many - 1)
            self.assert_number("1" + "0" * (many - 1), 10 ** (many - 1))
        self.assert_number("1234567890123", 1234567890123)
        self.assert_number("1000000000000", 10 ** 12)
        self.assert_number("1000000000001", 10 ** 12 + 1)

    def test_fourteen_figures_and_more(self):
        for word in ("1" * 14, "10000000000000", "9" * 14, "9" * 15, "1" * 200):
            self.assert_number(word, None)

    def test_nought_ahead(self):
        for word in ("00", "01", "007", "010", "0" * 13, "0" * 14, "0" + "1" * 12, "0" + "1" * 13):
            self.assert_number(word, None)

    def test_empty_text(self):
        self.assert_number("", None)

    def test_another_sign_at_any_place(self):
        others = [sign for sign in SIGNS + ODD_SIGNS if sign not in string.digits]
        for sign in "+- ._aA":
            self.assertIn(sign, others)
        for sign in others:
            self.assert_number(sign, None)
            for word in with_sign("123", sign):
                self.assert_number(word, None)
            for word in with_sign("0", sign):
                self.assert_number(word, None)
            for word in with_sign("123456789012", sign):
                self.assert_number(word, None)

    def test_other_ways_to_write_a_number(self):
        for word in ("+1", "-1", "-0", "1.0", "1e3", "0x1", "0b1", "1_000", " 1", "1 ", "one", "1,0"):
            self.assert_number(word, None)


class Words(unittest.TestCase):
    def test_blanks_part_words(self):
        for row in ("a bc d", "a  bc   d", " a bc d", "a bc d ", "   a   bc  d   "):
            with self.subTest(row=row):
                self.assertEqual(words_in(row), ["a", "bc", "d"])

    def test_no_word(self):
        for row in ("", " ", " " * 200):
            with self.subTest(row=row):
                self.assertEqual(words_in(row), [])

    def test_only_blanks_part_words(self):
        self.assertEqual(words_in("a\tb,c"), ["a\tb,c"])


if __name__ == "__main__":
    unittest.main()
