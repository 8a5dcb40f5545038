"""The forms of the rows of a debts' text."""

from tranchefall.rows import row_told
from tranchefall.words import words_in

FORMS = {
    "debt": ("name", "name"),
    "on": ("day", "coins"),
    "late": ("name", "day", "by"),
    "early": ("name", "day"),
    "quit": ("name", "day"),
}


def debt_row_of(row, place):
    words = words_in(row)
    if len(words) == 0:
        return None
    return row_told(words, FORMS.get(words[0]), place)
