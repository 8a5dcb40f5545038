"""Reads a debts' text row by row, and refuses it for the first row that is to be refused."""

from tranchefall.debtrows import debt_row_of
from tranchefall.errors import Misplaced, NoName, TooMany, Twice, Unfinished

EVENTS = ("late", "early", "quit")
MOST_DEBTS = 30
MOST_DAYS = 12
MOST_EVENTS = 60


class DebtsDraft:
    def __init__(self):
        self.debts = []
        self.events = []

    def has_debt(self, name):
        return name in [debt[0] for debt in self.debts]

    def lacks_plan(self):
        return len(self.debts) > 0 and len(self.last_plan()) == 0

    def last_plan(self):
        return self.debts[-1][2]

    def take_row(self, words):
        if words[0] == "debt":
            self.debts.append((words[1], words[2], []))
        elif words[0] == "on":
            self.last_plan().append((words[1], words[2]))
        else:
            self.events.append(tuple(words))


def read_debts(text):
    draft = DebtsDraft()
    rows = text.split("\n")
    for place, row in enumerate(rows, start=1):
        words = debt_row_of(row, place)
        if words is not None:
            refuse_row(draft, words, place)
            draft.take_row(words)
    if draft.lacks_plan():
        raise Unfinished("the last debt has no plan", len(rows))
    return (draft.debts, draft.events)


def refuse_row(draft, words, place):
    kind = words[0]
    if is_misplaced(draft, kind):
        raise Misplaced("the row stands where it can't stand", place)
    if kind != "on" and draft.lacks_plan():
        raise Unfinished("the debt ahead of the row has no plan", place)
    if is_twice(draft, words):
        raise Twice("the debt is told before, or the day isn't behind the one ahead", place)
    if kind in EVENTS and not draft.has_debt(words[1]):
        raise NoName("the row names no debt", place)
    if is_one_too_many(draft, kind):
        raise TooMany("the row is one more than may be", place)


def is_misplaced(draft, kind):
    if kind in EVENTS:
        return False
    if len(draft.events) > 0:
        return True
    return kind == "on" and len(draft.debts) == 0


def is_twice(draft, words):
    if words[0] == "debt":
        return draft.has_debt(words[1])
    if words[0] == "on":
        plan = draft.last_plan()
        return len(plan) > 0 and words[1] <= plan[-1][0]
    return False


def is_one_too_many(draft, kind):
    if kind == "debt":
        return len(draft.debts) >= MOST_DEBTS
    if kind == "on":
        return len(draft.last_plan()) >= MOST_DAYS
    return len(draft.events) >= MOST_EVENTS
