"""What can be asked of texts, answered by texts."""

from tranchefall.debtreader import read_debts
from tranchefall.dues import by_pool, told_days
from tranchefall.reaching import never, twice_word
from tranchefall.reader import read_deal
from tranchefall.reports import claim_rows, shown_rows
from tranchefall.rings import lend_ring
from tranchefall.showing import rows_joined
from tranchefall.whatif import compared


def days_of(deal_text, debts_text, many):
    return days_for(read_deal(deal_text), debts_text, many)


def days_for(deal, debts_text, many):
    read = read_debts(debts_text)
    told = told_days(read[0], read[1], many)
    return by_pool(read[0], told[0], [pool[0] for pool in deal])


def claims_told(deal_text, debts_text, many):
    deal = read_deal(deal_text)
    return shown_rows(claim_rows(deal, days_for(deal, debts_text, many)))


def what_if(deal_text, debts_text, many, rows):
    deal = read_deal(deal_text)
    return rows_joined(compared(deal, days_for(deal, debts_text, many), rows))


def words_on(deal_text):
    deal = read_deal(deal_text)
    rows = []
    for pool in deal:
        rows.append(twice_row(pool))
        rows.extend([("never", pool[0], order, place) for order, place in never(pool)])
    rows.append(ring_row(deal))
    return rows_joined(rows)


def twice_row(pool):
    told = twice_word(pool)
    if told[0] == "never":
        return ["once", pool[0]]
    row = ["twice", pool[0]]
    for income, loss in told[1]:
        row.extend([income, loss])
    return row


def ring_row(deal):
    ring = lend_ring(deal)
    return ["no", "ring"] if ring is None else ["ring"] + ring
