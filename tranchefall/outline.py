"""The outline of a book, and the steps that a pool's days make from one outline to another."""

from tranchefall.parts import tenths_of
from tranchefall.pools import look_order, order_named


def start_of(pool):
    runs = tuple([(claim, 0) for claim in greatest_days(pool)])
    return (runs, (True,) * len(pool[1]), (False,) * len(pool[2]))


# For each claim that looks name, in the order of the looks; more days than these tell nothing more.
def greatest_days(pool):
    greatest = {}
    for claim, days, order in pool[5]:
        greatest[claim] = max(greatest.get(claim, 0), days)
    return greatest


def outlined(pool, book):
    days_of = dict(book[2])
    sizes = dict(book[0])
    levels = dict(book[3])
    runs = tuple([(claim, min(days_of[claim], days)) for claim, days in greatest_days(pool).items()])
    alive = tuple([sizes[claim[0]] > 0 for claim in pool[1]])
    return (runs, alive, tuple([levels[pot] == mark for pot, mark in pool[2]]))


def order_of(pool, outline):
    return look_order(pool, dict(outline[0]))


def steps_of(pool, outline):
    order = order_named(pool, order_of(pool, outline))
    alive = dict(zip([claim[0] for claim in pool[1]], outline[1]))
    can_die = [claim for claim in pool[3] if alive[claim]]
    steps = []
    for kills in range(len(can_die) + 1):
        steps.extend(steps_with(pool, order, outline, kills, can_die[:kills]))
    return steps


def steps_with(pool, order, outline, kills, killed):
    day = OutlineDay(pool, outline, killed)
    steps = []
    for cut, rule in enumerate(order[2]):
        if day.needs(rule):
            steps.append((kills, cut, day.outline_behind()))
            if tenths_of(order[1]) >= 10:
                return steps
            day.fill(rule)
    steps.append((kills, len(order[2]), day.outline_behind()))
    return steps


# A day on which rules are filled one by one: its outline behind can be asked for between them.
class OutlineDay:
    def __init__(self, pool, outline, killed):
        self.claims = [claim[0] for claim in pool[1]]
        self.pots = [pot[0] for pot in pool[2]]
        self.guards = pool[6]
        self.greatest = greatest_days(pool)
        self.runs = outline[0]
        self.alive = dict(zip(self.claims, outline[1]))
        for claim in killed:
            self.alive[claim] = False
        self.full = dict(zip(self.pots, outline[2]))
        self.served = {}
        self.repaid = {}

    def needs(self, rule):
        kind = rule[0]
        if kind == "pay":
            return self.is_missed(rule[1])
        if kind == "share":
            return any([self.is_missed(claim) for claim in rule[1]])
        if kind == "repay":
            return self.alive[rule[1]] and rule[1] not in self.repaid
        if kind == "fill":
            return not self.full[rule[1]]
        return False

    def is_missed(self, claim):
        return self.alive[claim] and claim not in self.served

    def fill(self, rule):
        kind = rule[0]
        if kind == "fill":
            self.full[rule[1]] = True
        elif kind == "share":
            for claim in rule[1]:
                self.served[claim] = True
        else:
            self.served[rule[1]] = True
            if kind == "repay":
                self.repaid[rule[1]] = True

    def outline_behind(self):
        drawn = [pot for pot, claim in self.guards if self.is_missed(claim)]
        runs = [(claim, self.days_behind(claim, days)) for claim, days in self.runs]
        alive = [self.alive[claim] and claim not in self.repaid for claim in self.claims]
        full = [self.full[pot] and pot not in drawn for pot in self.pots]
        return (tuple(runs), tuple(alive), tuple(full))

    def days_behind(self, claim, days):
        return min(days + 1, self.greatest[claim]) if self.is_missed(claim) else 0
