"""The words of a row, and what a single word may be."""

KEYWORDS = (
    "pool", "claim", "pot", "eat", "order", "part", "pay", "share", "repay", "fill",
    "lend", "back", "rest", "look", "guard", "debt", "on", "late", "early", "quit",
)
LETTERS = "abcdefghijklmnopqrstuvwxyz"
FIGURES = "0123456789"
LONGEST_NAME = 8
LONGEST_NUMBER = 13


# The blank alone parts words: a split without it would part them at other white signs too.
def words_in(row):
    return [word for word in row.split(" ") if word != ""]


# Signs are sought in a written row of signs, as isalpha and isdigit also let signs of other scripts through.
def has_only(word, signs):
    return all([sign in signs for sign in word])


def is_name(word):
    if not 1 <= len(word) <= LONGEST_NAME:
        return False
    return has_only(word, LETTERS) and word not in KEYWORDS


def number_in(word):
    if not 1 <= len(word) <= LONGEST_NUMBER or not has_only(word, FIGURES):
        return None
    if word[0] == "0" and word != "0":
        return None
    return int(word)
