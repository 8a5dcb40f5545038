"""What several files ask of pools and of loans."""


def order_named(pool, name):
    for order in pool[4]:
        if order[0] == name:
            return order
    return None


# The order that the looks tell where the claims that they name were missed on so many days running.
def look_order(pool, days_of):
    for claim, days, order in pool[5]:
        if days_of[claim] >= days:
            return order
    return pool[4][0][0]


# By pairs (lender, borrower).
def loans_by_ends(loans):
    return dict([((lender, borrower), coins) for lender, borrower, coins in loans])


# What the pool lends makes its own loan to the other greater, what it gives back the other's loan to it less.
def move_loan(coins_of, pool_name, kind, other, coins):
    if kind == "lend":
        coins_of[(pool_name, other)] = coins_of.get((pool_name, other), 0) + coins
    else:
        coins_of[(other, pool_name)] -= coins


def loans_behind(loans, pool_name, moves):
    coins_of = loans_by_ends(loans)
    for kind, other, coins in moves:
        move_loan(coins_of, pool_name, kind, other, coins)
    return sorted([(ends[0], ends[1], coins) for ends, coins in coins_of.items() if coins > 0])
