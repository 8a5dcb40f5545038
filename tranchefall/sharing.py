"""How too few coins are shared by those who need them."""


def shared(needs, cash):
    whole = sum(needs)
    if cash >= whole:
        return list(needs)
    gets = [cash * need // whole for need in needs]
    left = cash - sum(gets)
    for at, need in enumerate(needs):
        if left > 0 and gets[at] < need:
            gets[at] += 1
            left -= 1
    return gets
