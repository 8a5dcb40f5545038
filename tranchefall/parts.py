"""What the parts of an order ask for of the coins that came in."""


def asked(parts, came):
    whole = tenths_of(parts)
    if whole > 10:
        asks = [(came * part[1] + 9) // 10 for part in parts]
        return (asks, sum(asks) - came)
    asks = [came * part[1] // 10 for part in parts]
    odd = came * whole // 10 - sum(asks)
    return ([ask + 1 if at < odd else ask for at, ask in enumerate(asks)], 0)


def tenths_of(parts):
    return sum([part[1] for part in parts])
