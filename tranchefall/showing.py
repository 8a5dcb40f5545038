"""Writes a deal, or any rows of words and numbers, as a text."""


def shown_deal(deal):
    rows = []
    for pool in deal:
        rows.extend(pool_rows(pool))
    return rows_joined(rows)


def rows_joined(rows):
    return "\n".join([words_joined(row) for row in rows])


def words_joined(words):
    return " ".join([str(word) for word in words])


def pool_rows(pool):
    rows = [("pool", pool[0])]
    rows.extend(with_first("claim", pool[1]))
    rows.extend(with_first("pot", pool[2]))
    if len(pool[3]) > 0:
        rows.append(("eat",) + tuple(pool[3]))
    for order in pool[4]:
        rows.extend(order_rows(order))
    rows.extend(with_first("look", pool[5]))
    rows.extend(with_first("guard", pool[6]))
    return rows


def with_first(kind, told):
    return [(kind,) + one for one in told]


def order_rows(order):
    rows = [("order", order[0])]
    rows.extend(with_first("part", order[1]))
    rows.extend([rule_row(rule) for rule in order[2]])
    return rows


def rule_row(rule):
    if rule[0] == "share":
        return ("share",) + tuple(rule[1])
    return rule
