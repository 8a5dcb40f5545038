"""What claims got over many days, and where all coins are."""

from tranchefall.days import begun, ran
from tranchefall.showing import rows_joined

# The ways in which a claim gets coins, in the order of a row of the report.
CLAIM_KINDS = ("part", "pay", "share", "repay", "rest", "guard")


def claim_rows(deal, days):
    told = ran(deal, days)
    got = coins_got(told)
    missed = days_missed(told)
    rows = []
    for pool, book in zip(deal, last_state(deal, told)[0]):
        sizes = dict(book[0])
        owed = dict(book[1])
        for claim in [told_claim[0] for told_claim in pool[1]]:
            sums = [got.get((kind, claim), 0) for kind in CLAIM_KINDS + ("eat",)]
            ends = (owed[claim], sizes[claim], missed.get(claim, 0))
            rows.append((pool[0], claim) + tuple(sums) + ends)
    return rows


def last_state(deal, told):
    return told[-1][0] if len(told) > 0 else begun(deal)


# By kind and name, for all days; no two pools have a claim of the same name.
def coins_got(told):
    got = {}
    for state, log in told:
        for entry in log:
            key = (entry[3], entry[4])
            got[key] = got.get(key, 0) + entry[6]
    return got


# A claim was missed on a day where its days running are above 0 behind it.
def days_missed(told):
    missed = {}
    for state, log in told:
        for book in state[0]:
            for claim, days in book[2]:
                missed[claim] = missed.get(claim, 0) + min(days, 1)
    return missed


def shown_rows(rows):
    return rows_joined(rows)


def ledger(deal, days):
    told = ran(deal, days)
    state = last_state(deal, told)
    came = sum([sum(incomes) for incomes, losses in days])
    paid = sum([coins for key, coins in coins_got(told).items() if key[0] in CLAIM_KINDS])
    kept = sum([sum([pot[1] for pot in book[3]]) for book in state[0]])
    return (came, paid, kept, sum(state[2]), sum([book[4] for book in state[0]]))
