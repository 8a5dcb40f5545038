"""How a loss eats the sizes of claims."""


def eaten(pool, book, loss):
    sizes = dict(book[0])
    left = loss
    entries = []
    for place, claim in enumerate(pool[3]):
        got = min(left, sizes[claim])
        entries.append((place, "eat", claim, left, got))
        sizes[claim] -= got
        left -= got
    owed = [(claim, coins if sizes[claim] > 0 else 0) for claim, coins in book[1]]
    return (entries, (list(sizes.items()), owed, list(book[2]), list(book[3]), book[4] + left))
