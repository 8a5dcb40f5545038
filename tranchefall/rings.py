"""Rings of pools that lend to one another."""


def lend_ring(deal):
    lends = dict([(pool[0], lent_to(pool)) for pool in deal])
    for name in lends:
        ring = ring_from(lends, name)
        if ring is not None:
            return ring
    return None


def lent_to(pool):
    names = []
    for order in pool[4]:
        names.extend([rule[1] for rule in order[2] if rule[0] == "lend"])
    return names


# Goes from the first pool to those that it lends to, from these on to theirs, and so on, till one lends to the first.
def ring_from(lends, first):
    come_from = {first: None}
    names = [first]
    at = 0
    while at < len(names):
        lender = names[at]
        for other in lends[lender]:
            if other == first:
                return way_to(come_from, lender)
            if other not in come_from:
                come_from[other] = lender
                names.append(other)
        at += 1
    return None


def way_to(come_from, last):
    way = []
    name = last
    while name is not None:
        way.append(name)
        name = come_from[name]
    return list(reversed(way))
