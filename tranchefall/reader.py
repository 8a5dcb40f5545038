"""Reads a deal's text row by row, and refuses it for the first row that is to be refused."""

from tranchefall.drafts import PoolDraft
from tranchefall.errors import Misplaced, NoName, TooMany, Twice, Unfinished, Unguarded
from tranchefall.rows import row_of

# The rows of a pool come in stages, one behind the other; an order, its parts and its rules are of one stage.
STAGES = {
    "claim": 1, "pot": 2, "eat": 3, "order": 4, "part": 4, "pay": 4, "share": 4, "repay": 4, "fill": 4,
    "lend": 4, "back": 4, "rest": 4, "look": 5, "guard": 6,
}
RULES = ("pay", "share", "repay", "fill", "lend", "back", "rest")
# The rest is beside the rules that are counted.
MOST_RULES = 8
MOST = {"pool": 6, "claim": 6, "pot": 3, "order": 5, "part": 6, "look": 4, "guard": 3}


class DealDraft:
    def __init__(self):
        self.pools = []
        self.names = {}
        self.loan_rows = []

    # The pool that the next row belongs to, or that ends where the next row is a pool's.
    def last_pool(self):
        return self.pools[-1] if len(self.pools) > 0 else None

    def take_row(self, words, place):
        kind = words[0]
        if kind in ("pool", "claim", "pot"):
            self.names[words[1]] = True
        if kind == "pool":
            self.pools.append(PoolDraft(words[1]))
            return
        pool = self.last_pool()
        if kind in ("lend", "back"):
            self.loan_rows.append((place, pool.name, words[1]))
        pool.put(words)


def read_deal(text):
    draft = DealDraft()
    rows = text.split("\n")
    for place, row in enumerate(rows, start=1):
        words = row_of(row, place)
        if words is not None:
            refuse_row(draft, words, place)
            draft.take_row(words, place)
    refuse_end(draft, len(rows))
    return [pool.pool_told() for pool in draft.pools]


def refuse_row(draft, words, place):
    pool = draft.last_pool()
    if is_misplaced(pool, words[0]):
        raise Misplaced("the row stands where it can't stand", place)
    if is_early(pool, words[0]):
        raise Unfinished("what stands ahead of the row isn't finished", place)
    if is_twice(draft, pool, words):
        raise Twice("the row tells something a second time", place)
    if names_unknown(pool, words):
        raise NoName("the row names what its pool doesn't have", place)
    if words[0] == "guard" and pool.shares_or_repays(words[2]):
        raise Unguarded("the claim stands in a share or a repay", place)
    if is_one_too_many(draft, pool, words[0]):
        raise TooMany("the row is one more than may be", place)


def is_misplaced(pool, kind):
    if kind == "pool":
        return False
    if pool is None or STAGES[kind] < stage_of(pool):
        return True
    if kind == "eat":
        return len(pool.eat) > 0
    if kind == "part" or kind in RULES:
        return is_out_of_order(pool, kind)
    return False


def stage_of(pool):
    if len(pool.guards) > 0:
        return STAGES["guard"]
    if len(pool.looks) > 0:
        return STAGES["look"]
    if len(pool.orders) > 0:
        return STAGES["order"]
    if len(pool.eat) > 0:
        return STAGES["eat"]
    if len(pool.pots) > 0:
        return STAGES["pot"]
    return STAGES["claim"]


def is_out_of_order(pool, kind):
    if len(pool.orders) == 0:
        return True
    order = pool.orders[-1]
    return order.has_rest() or (kind == "part" and len(order.rules) > 0)


def is_early(pool, kind):
    if pool is None or kind not in ("order", "look", "guard", "pool"):
        return False
    if len(pool.orders) > 0 and not pool.orders[-1].has_rest():
        return True
    if kind != "order" and len(pool.orders) == 0:
        return True
    return kind in ("order", "pool") and len(pool.claims) == 0


def is_twice(draft, pool, words):
    kind = words[0]
    if kind in ("pool", "claim", "pot"):
        return words[1] in draft.names
    if kind == "order":
        return pool.has_order(words[1])
    if kind in ("eat", "share"):
        return len(set(words[1:])) < len(words) - 1
    if kind == "part":
        return words[1] in [part[0] for part in pool.orders[-1].parts]
    if kind == "guard":
        return pool.has_guard(words[2])
    return False


# Which pools lends and backs name is asked behind the last row, as these may stand behind.
def names_unknown(pool, words):
    kind = words[0]
    if kind in ("eat", "share"):
        return not all([pool.has_claim(name) for name in words[1:]])
    if kind in ("part", "pay", "repay", "rest"):
        return not pool.has_claim(words[1])
    if kind == "fill":
        return not pool.has_pot(words[1])
    if kind == "look":
        return not (pool.has_claim(words[1]) and pool.has_order(words[3]))
    if kind == "guard":
        return not (pool.has_pot(words[1]) and pool.has_claim(words[2]))
    return False


def is_one_too_many(draft, pool, kind):
    if kind == "pool":
        return len(draft.pools) >= MOST["pool"]
    if kind in ("eat", "rest"):
        return False
    if kind in RULES:
        return len(pool.orders[-1].rules) >= MOST_RULES
    return len(told_of_kind(pool, kind)) >= MOST[kind]


def told_of_kind(pool, kind):
    if kind == "claim":
        return pool.claims
    if kind == "pot":
        return pool.pots
    if kind == "order":
        return pool.orders
    if kind == "part":
        return pool.orders[-1].parts
    if kind == "look":
        return pool.looks
    return pool.guards


def refuse_end(draft, many):
    pool = draft.last_pool()
    if pool is None or is_early(pool, "pool"):
        raise Unfinished("the deal isn't finished", many)
    pools = [told.name for told in draft.pools]
    for place, own, other in draft.loan_rows:
        if other == own or other not in pools:
            raise NoName("the row names no other pool of the deal", place)
