"""The days of a deal, and of a pool alone."""

from tranchefall.falling import fell
from tranchefall.losing import eaten
from tranchefall.pools import loans_behind, look_order


def begun(deal):
    return ([begun_book(pool) for pool in deal], [], [0 for pool in deal])


def begun_book(pool):
    sizes = [(claim[0], claim[1]) for claim in pool[1]]
    owed = [(claim[0], 0) for claim in pool[1]]
    runs = [(claim[0], 0) for claim in pool[1]]
    return (sizes, owed, runs, [(pot[0], 0) for pot in pool[2]], 0)


def order_now(pool, book):
    return look_order(pool, dict(book[2]))


# Tells lists of the book on, so it is only asked of a book that is nobody else's.
def with_dues(pool, book):
    sizes = dict(book[0])
    dues = dict([(claim[0], claim[2]) for claim in pool[1]])
    owed = [(claim, coins + dues[claim] if sizes[claim] > 0 else coins) for claim, coins in book[1]]
    return (book[0], owed, book[2], book[3], book[4])


# The day of one pool; what it moves is not yet with the other pools.
def pool_day(pool, book, loans, came, loss):
    told_loss = eaten(pool, book, loss)
    order = order_now(pool, book)
    told_fall = fell(pool, order, with_dues(pool, told_loss[1]), came, loans)
    log = [(pool[0], "") + entry for entry in told_loss[0]]
    log.extend([(pool[0], order) + entry for entry in told_fall[0]])
    return (told_fall[1], loans_behind(loans, pool[0], told_fall[2]), told_fall[2], log)


def day_done(deal, state, incomes, losses):
    books = []
    loans = list(state[1])
    waiting = list(state[2])
    log = []
    at_of = dict([(pool[0], at) for at, pool in enumerate(deal)])
    for at, pool in enumerate(deal):
        came = incomes[at] + waiting[at]
        waiting[at] = 0
        told = pool_day(pool, state[0][at], loans, came, losses[at])
        books.append(told[0])
        loans = told[1]
        for kind, other, coins in told[2]:
            waiting[at_of[other]] += coins
        log.extend(told[3])
    return ((books, loans, waiting), log)


def ran(deal, days):
    state = begun(deal)
    told = []
    for incomes, losses in days:
        done = day_done(deal, state, incomes, losses)
        told.append(done)
        state = done[0]
    return told


def ran_alone(pool, days):
    book = begun_book(pool)
    loans = []
    told = []
    for income, loss in days:
        done = pool_day(pool, book, loans, income, loss)
        book = done[0]
        loans = done[1]
        told.append((book, loans, done[3]))
    return told
