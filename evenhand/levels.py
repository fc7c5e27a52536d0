"""So much taken from the greatest shares or given to the least, one by one."""

from evenhand.checks import BOUND, check_row, is_whole
from evenhand.errors import BadAmount

MOST = 1000000000


def check_amount(amount):
    if not is_whole(amount) or not 0 <= amount <= MOST:
        raise BadAmount("an amount is a whole number from 0 to 1000000000")


# The lowest mark above which the row has no more than the amount: down to it whole layers are taken.
def level_behind(row, amount):
    together = 0
    many = 0
    for share in sorted(row, reverse=True):
        if together - many * share > amount:
            break
        together += share
        many += 1
    # Rounded up: what is too little for one more layer of so many shares stays a rest.
    return -((amount - together) // many)


def lowered(row, amount):
    level = level_behind(row, amount)
    rest = amount - sum([share - level for share in row if share > level])
    behind = []
    for share in row:
        left = min(share, level)
        # The greatest ones all stand at the level now, so the rest comes from the first of them.
        if left == level and rest > 0:
            left -= 1
            rest -= 1
        behind.append(left)
    if min(behind) < -BOUND:
        raise BadAmount("so much takes a share beyond the bounds")
    return behind


def turned(row):
    return [-share for share in row]


def taken(row, amount):
    check_row(row)
    check_amount(amount)
    return lowered(row, amount)


def poured(row, amount):
    check_row(row)
    check_amount(amount)
    # With every sign turned the least share is the greatest and the bounds are the same.
    return turned(lowered(turned(row), amount))
