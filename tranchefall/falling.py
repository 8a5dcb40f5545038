"""The fall of a day's coins through one order of a pool."""

from tranchefall.parts import asked
from tranchefall.pools import loans_by_ends, move_loan, order_named
from tranchefall.sharing import shared


def fell(pool, order, book, came, loans):
    rows = order_named(pool, order)
    fall = Fall(pool, book, came, loans)
    fall.take_parts(rows[1])
    for place, rule in enumerate(rows[2], start=len(rows[1])):
        if rule[0] == "share":
            fall.take_share(place, rule[1])
        else:
            fall.take_rule(place, rule)
    for place, guard in enumerate(pool[6]):
        fall.take_guard(place, guard[0], guard[1])
    return (fall.entries, fall.book_behind(book), fall.moves)


class Fall:
    def __init__(self, pool, book, came, loans):
        self.pool_name = pool[0]
        self.marks = dict(pool[2])
        self.sizes = dict(book[0])
        self.owed = dict(book[1])
        self.levels = dict(book[3])
        self.loans = loans_by_ends(loans)
        self.cash = came
        self.served = {}
        self.entries = []
        self.moves = []

    def take_parts(self, parts):
        came = self.cash
        told = asked(parts, came)
        for place, part in enumerate(parts):
            ask = told[0][place]
            got = min(ask, self.cash)
            self.cash -= got
            self.entries.append((place, "part", part[0], ask, got))
        if told[1] > 0:
            self.entries.append((-1, "twice", "", sum(told[0]), came))

    def take_rule(self, place, rule):
        kind = rule[0]
        name = rule[1]
        need = self.need_of(rule)
        got = min(need, self.cash)
        self.cash -= got
        self.entries.append((place, kind, name, need, got))
        self.give(kind, name, got)
        if kind in ("pay", "repay") and got == need and need > 0:
            self.served[name] = True

    def need_of(self, rule):
        kind = rule[0]
        name = rule[1]
        if kind == "pay":
            return self.owed[name]
        if kind == "repay":
            return self.owed[name] + self.sizes[name]
        if kind == "fill":
            return max(self.marks[name] - self.levels[name], 0)
        if kind == "lend":
            return max(rule[2] - self.loans.get((self.pool_name, name), 0), 0)
        if kind == "back":
            return self.loans.get((name, self.pool_name), 0)
        return self.cash

    # What a rest gives is beside what the claim is owed, so nothing is kept of it here.
    def give(self, kind, name, coins):
        if kind == "pay":
            self.owed[name] -= coins
        elif kind == "repay":
            from_owed = min(coins, self.owed[name])
            self.owed[name] -= from_owed
            self.sizes[name] -= coins - from_owed
        elif kind == "fill":
            self.levels[name] += coins
        elif kind in ("lend", "back") and coins > 0:
            move_loan(self.loans, self.pool_name, kind, name, coins)
            self.moves.append((kind, name, coins))

    def take_share(self, place, names):
        needs = [self.owed[name] for name in names]
        gets = shared(needs, self.cash)
        full = sum(needs) > 0 and gets == needs
        for name, need, got in zip(names, needs, gets):
            self.cash -= got
            self.owed[name] -= got
            self.entries.append((place, "share", name, need, got))
            if full:
                self.served[name] = True

    def take_guard(self, place, pot, claim):
        need = self.owed[claim]
        got = min(need, self.levels[pot])
        self.levels[pot] -= got
        self.owed[claim] -= got
        self.entries.append((place, "guard", claim, need, got))

    # Whether a claim is missed goes by the size that it had ahead of the fall.
    def book_behind(self, book):
        sizes_ahead = dict(book[0])
        runs = []
        for claim, days in book[2]:
            missed = sizes_ahead[claim] > 0 and claim not in self.served
            runs.append((claim, days + 1 if missed else 0))
        return (list(self.sizes.items()), list(self.owed.items()), runs, list(self.levels.items()), book[4])
