"""What becomes of claims where there are more losses."""

from tranchefall.reports import claim_rows


def added_losses(deal, days, rows):
    more = {}
    for day, pool, coins in rows:
        more[(day, pool)] = more.get((day, pool), 0) + coins
    told = []
    for day, pair in enumerate(days, start=1):
        losses = [loss + more.get((day, pool[0]), 0) for pool, loss in zip(deal, pair[1])]
        told.append((list(pair[0]), losses))
    return told


def compared(deal, days, rows):
    without = claim_rows(deal, days)
    with_more = claim_rows(deal, added_losses(deal, days, rows))
    return [both_ways(one, other) for one, other in zip(without, with_more)]


# Of a row of the report: pool, claim, the six sums of what it got, what was eaten, what it is owed, its size.
def both_ways(one, other):
    return (one[0], one[1], sum(one[2:8]), sum(other[2:8]), one[10], other[10])
