"""Rows: their rising sums, what they have above a mark, gifts done, and the evenest row."""

from evenhand.checks import check_row, is_gift, is_share, is_whole
from evenhand.errors import BadAmount, BadGifts


def rising_sums(row):
    check_row(row)
    sums = []
    so_far = 0
    for share in sorted(row):
        so_far += share
        sums.append(so_far)
    return sums


def above(row, mark):
    check_row(row)
    if not is_whole(mark):
        raise BadAmount("a mark is a whole number")
    return sum([share - mark for share in row if share > mark])


# It changes the row it is given, so that many gifts to a long row need one copy and not one each.
def give(row, gift):
    row[gift[0]] -= gift[2]
    row[gift[1]] += gift[2]


def done(row, gifts):
    check_row(row)
    if not isinstance(gifts, list):
        raise BadGifts("gifts are a list")
    behind = list(row)
    for gift in gifts:
        if not is_gift(gift, len(behind)):
            raise BadGifts("a gift is a tuple of two different places of the row and a whole number above 0")
        give(behind, gift)
        if not is_share(behind[gift[0]]) or not is_share(behind[gift[1]]):
            raise BadGifts("a gift takes a share beyond the bounds")
    return behind


def evenest(row):
    check_row(row)
    whole = sum(row)
    # Floor division keeps the rest from 0 up, also for a whole below 0.
    low = whole // len(row)
    rest = whole % len(row)
    return [low + 1] * rest + [low] * (len(row) - rest)
