"""What comes in of debts, and what is lost of them, day by day."""


def told_days(debts, events, many):
    to_come = dict([(debt[0], dict(debt[2])) for debt in debts])
    days = [day_told(debts, to_come, events, day) for day in range(1, many + 1)]
    left = {}
    for name, coins_at in to_come.items():
        left[name] = sum(coins_at.values())
    return (days, above_nought(debts, left))


# Takes out of `to_come`, which has for each debt its coins by days, what comes in or is lost that day.
def day_told(debts, to_come, events, day):
    lost = {}
    for event in events:
        if event[2] == day:
            meet_event(to_come[event[1]], lost, event)
    paid = {}
    for debt in debts:
        paid[debt[0]] = to_come[debt[0]].pop(day, 0)
    return (above_nought(debts, paid), above_nought(debts, lost))


def meet_event(coins_at, lost, event):
    name = event[1]
    day = event[2]
    if event[0] == "late":
        later = day + event[3]
        coins_at[later] = coins_at.get(later, 0) + coins_at.pop(day, 0)
        return
    whole = sum(coins_at.values())
    coins_at.clear()
    if event[0] == "early":
        coins_at[day] = whole
    else:
        lost[name] = lost.get(name, 0) + whole


# The order of the debts is asked for, and those without coins are not told.
def above_nought(debts, coins_of):
    return [(debt[0], coins_of[debt[0]]) for debt in debts if coins_of.get(debt[0], 0) > 0]


def by_pool(debts, days, pools):
    pool_of = dict([(debt[0], debt[1]) for debt in debts])
    return [(sums_for(pool_of, paid, pools), sums_for(pool_of, lost, pools)) for paid, lost in days]


def sums_for(pool_of, told, pools):
    sums = {}
    for name, coins in told:
        sums[pool_of[name]] = sums.get(pool_of[name], 0) + coins
    return [sums.get(pool, 0) for pool in pools]
