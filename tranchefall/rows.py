"""The forms of the rows of a deal's text, and how the words of any row are told."""

from tranchefall.errors import BadRow
from tranchefall.words import is_name, number_in, words_in

# What stands behind the first word: a name, or a number that is one of the keys of GREATEST.
FORMS = {
    "pool": ("name",),
    "claim": ("name", "coins", "coins"),
    "pot": ("name", "coins"),
    "order": ("name",),
    "part": ("name", "tenths"),
    "pay": ("name",),
    "repay": ("name",),
    "fill": ("name",),
    "lend": ("name", "coins"),
    "back": ("name",),
    "rest": ("name",),
    "look": ("name", "days", "name"),
    "guard": ("name", "name"),
}
# The least and the greatest number of names in the rows that take as many as they like between these.
NAME_COUNTS = {"eat": (1, 6), "share": (2, 6)}
# The kinds of numbers in the rows of debts ("day", "by") stand here too, as one function tells both sorts of rows.
GREATEST = {"coins": 1000000000000, "tenths": 10, "days": 9, "day": 60, "by": 30}


def row_of(row, place):
    words = words_in(row)
    if len(words) == 0:
        return None
    return row_told(words, kinds_behind(words[0], len(words) - 1), place)


# None where no row that begins with this word has so many names behind it, or where no row begins with it.
def kinds_behind(first, many):
    if first in NAME_COUNTS:
        ends = NAME_COUNTS[first]
        return ("name",) * many if ends[0] <= many <= ends[1] else None
    return FORMS.get(first)


def row_told(words, kinds, place):
    if kinds is None or len(kinds) != len(words) - 1:
        raise BadRow("the row has no form that a row may have", place)
    told = [words[0]]
    for word, kind in zip(words[1:], kinds):
        value = value_in(word, kind)
        if value is None:
            raise BadRow(f"the row has the word {word!r} where it can't stand", place)
        told.append(value)
    return told


def value_in(word, kind):
    if kind == "name":
        return word if is_name(word) else None
    number = number_in(word)
    if number is None or not 1 <= number <= GREATEST[kind]:
        return None
    return number
