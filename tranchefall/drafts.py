"""Pools and orders in the making: they take rows one by one and refuse none."""


# A share keeps its names in a tuple of their own, so that every rule has its names at the same place.
def rule_of(words):
    if words[0] == "share":
        return ("share", tuple(words[1:]))
    return tuple(words)


class OrderDraft:
    def __init__(self, name):
        self.name = name
        self.parts = []
        self.rules = []

    def has_rest(self):
        return len(self.rules) > 0 and self.rules[-1][0] == "rest"

    def shares_or_repays(self, claim):
        for rule in self.rules:
            if rule[0] == "share" and claim in rule[1]:
                return True
            if rule[0] == "repay" and claim == rule[1]:
                return True
        return False

    # A told list is the asker's own, so the draft's lists are given as copies.
    def order_told(self):
        return (self.name, list(self.parts), list(self.rules))


class PoolDraft:
    def __init__(self, name):
        self.name = name
        self.claims = []
        self.pots = []
        self.eat = []
        self.orders = []
        self.looks = []
        self.guards = []

    # Takes any row behind the pool's own, as row_of tells it; parts and rules go to the last order.
    def put(self, words):
        kind = words[0]
        behind = tuple(words[1:])
        if kind == "claim":
            self.claims.append(behind)
        elif kind == "pot":
            self.pots.append(behind)
        elif kind == "eat":
            self.eat.extend(behind)
        elif kind == "order":
            self.orders.append(OrderDraft(words[1]))
        elif kind == "part":
            self.orders[-1].parts.append(behind)
        elif kind == "look":
            self.looks.append(behind)
        elif kind == "guard":
            self.guards.append(behind)
        else:
            self.orders[-1].rules.append(rule_of(words))

    def has_claim(self, name):
        return name in [claim[0] for claim in self.claims]

    def has_pot(self, name):
        return name in [pot[0] for pot in self.pots]

    def has_order(self, name):
        return name in [order.name for order in self.orders]

    def has_guard(self, claim):
        return claim in [guard[1] for guard in self.guards]

    def shares_or_repays(self, claim):
        return any([order.shares_or_repays(claim) for order in self.orders])

    def pool_told(self):
        orders = [order.order_told() for order in self.orders]
        return (
            self.name, list(self.claims), list(self.pots), list(self.eat),
            orders, list(self.looks), list(self.guards),
        )
