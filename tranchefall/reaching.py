"""The looker: which outlines a pool can come to, which rows can give a coin, and by which days."""

from tranchefall.days import begun_book, order_now, pool_day
from tranchefall.outline import order_of, start_of, steps_of
from tranchefall.parts import tenths_of
from tranchefall.pools import order_named

# The kinds of rules that have a need of their own; a rest has all that is left.
NEEDING = ("pay", "share", "repay", "fill", "lend", "back")


# The outlines that steps come to, those of the fewest steps first; `at` is the place of the one that is looked at.
class Walk:
    def __init__(self, pool):
        start = start_of(pool)
        self.pool = pool
        self.outlines = [start]
        self.come_by = {start: None}
        self.orders = {}
        self.cuts = {}
        self.at = 0

    # None where all outlines were looked at.
    def outline_now(self):
        return self.outlines[self.at] if self.at < len(self.outlines) else None

    def go_on(self):
        ahead = self.outlines[self.at]
        order = order_of(self.pool, ahead)
        self.orders[order] = True
        for kills, cut, outline in steps_of(self.pool, ahead):
            self.cuts[(order, cut)] = True
            if outline not in self.come_by:
                self.come_by[outline] = (ahead, kills, cut)
                self.outlines.append(outline)
        self.at += 1

    # The kills and cuts by which the outline looked at is come to from the start.
    def steps_to_now(self):
        steps = []
        step = self.come_by[self.outlines[self.at]]
        while step is not None:
            steps.append((step[1], step[2]))
            step = self.come_by[step[0]]
        return list(reversed(steps))


def walk_to(pool, is_wanted):
    walk = Walk(pool)
    while walk.outline_now() is not None and not is_wanted(walk.outline_now()):
        walk.go_on()
    return walk


def whole_walk(pool):
    return walk_to(pool, lambda outline: False)


# The pool alone, with the days that were done till now.
class AloneRun:
    def __init__(self, pool):
        self.pool = pool
        self.book = begun_book(pool)
        self.loans = []
        self.days = []

    def do_day(self, income, loss):
        done = pool_day(self.pool, self.book, self.loans, income, loss)
        self.book = done[0]
        self.loans = done[1]
        self.days.append((income, loss))

    # The rules ahead of the cut get just what they need, and `more` coins are left for the rule at the cut.
    def do_step(self, kills, cut, more):
        loss = self.loss_for(kills)
        self.do_day(self.income_for(loss, cut, more), loss)

    def loss_for(self, kills):
        sizes = dict(self.book[0])
        alive = [claim for claim in self.pool[3] if sizes[claim] > 0]
        return sum([sizes[claim] for claim in alive[:kills]])

    # Where the parts leave nothing to the rules no income matters to them. Else the parts take their tenths rounded
    # down, so that of the income told here just the coins for the rules are left.
    def income_for(self, loss, cut, more):
        order = order_named(self.pool, order_now(self.pool, self.book))
        tenths = tenths_of(order[1])
        if tenths >= 10:
            return 0
        return (self.needs_ahead(order, loss, cut) + more) * 10 // (10 - tenths)

    # Needs are known from a day with so many coins that all rules are filled.
    def needs_ahead(self, order, loss, cut):
        trial = pool_day(self.pool, self.book, self.loans, 10 * self.most_needed(order), loss)
        first_cut = len(order[1]) + cut
        return sum([entry[5] for entry in trial[3] if entry[3] in NEEDING and entry[2] < first_cut])

    # No claim, pot or loan takes more than this in all the rules of one day; the parts leave a tenth at least.
    def most_needed(self, order):
        claims = sum([claim[2] for claim in self.pool[1]])
        books = sum([pair[1] for pair in self.book[0] + self.book[1]])
        pots = sum([pot[1] for pot in self.pool[2]])
        return claims + books + pots + sum([rule[2] for rule in order[2] if rule[0] == "lend"])


# None where the walk came to no wanted outline.
def run_behind(walk):
    if walk.outline_now() is None:
        return None
    run = AloneRun(walk.pool)
    for kills, cut in walk.steps_to_now():
        run.do_step(kills, cut, 0)
    return run


def states_of(pool):
    return whole_walk(pool).outlines


def days_into(pool, outline):
    run = run_behind(walk_to(pool, lambda one: one == outline))
    return None if run is None else run.days


def days_to(pool, order, place):
    rows = order_named(pool, order)
    if place < len(rows[1]):
        return days_to_part(pool, rows, place)
    return days_to_rule(pool, rows, place - len(rows[1]))


def days_to_part(pool, order, place):
    if not part_can_give(order, place):
        return None
    run = run_behind(walk_to(pool, lambda outline: order_of(pool, outline) == order[0]))
    if run is None:
        return None
    # Of ten coins each part asks for its tenths without any rounding.
    run.do_day(10, 0)
    return run.days


# The parts ahead take all where their tenths are ten or more.
def part_can_give(order, place):
    return tenths_of(order[1][:place]) < 10


def days_to_rule(pool, order, at):
    if tenths_of(order[1]) >= 10:
        return None
    walk = walk_to(pool, lambda outline: kills_for(pool, order, outline, at) is not None)
    run = run_behind(walk)
    if run is None:
        return None
    run.do_step(kills_for(pool, order, walk.outline_now(), at), at, 1)
    return run.days


# The fewest kills with which the rule needs something on the next day; None where it can't.
def kills_for(pool, order, outline, at):
    if order_of(pool, outline) != order[0]:
        return None
    if order[2][at][0] == "rest":
        return 0
    for kills, cut, behind in steps_of(pool, outline):
        if cut == at:
            return kills
    return None


# One walk for all rows, as a walk for each would take too long; it answers as days_to does.
def never(pool):
    walk = whole_walk(pool)
    told = []
    for order in pool[4]:
        for place in asked_places(order):
            if not can_give(walk, order, place):
                told.append((order[0], place))
    return told


def asked_places(order):
    kinds = ["part" for part in order[1]] + [rule[0] for rule in order[2]]
    return [place for place, kind in enumerate(kinds) if kind not in ("lend", "back")]


def can_give(walk, order, place):
    if order[0] not in walk.orders:
        return False
    if place < len(order[1]):
        return part_can_give(order, place)
    at = place - len(order[1])
    if tenths_of(order[1]) >= 10:
        return False
    return order[2][at][0] == "rest" or (order[0], at) in walk.cuts


def twice_word(pool):
    walk = walk_to(pool, lambda outline: asks_twice(pool, outline))
    run = run_behind(walk)
    if run is None:
        return ("never", walk.outlines)
    run.do_day(1, 0)
    return ("twice", run.days)


def asks_twice(pool, outline):
    return tenths_of(order_named(pool, order_of(pool, outline))[1]) > 10
