"""Two rows side by side: fair gifts that lead from one to the other, and the row under both."""

from evenhand.answers import Gifts, Top, Wholes
from evenhand.checks import check_row
from evenhand.errors import Unlike


def check_pair(one, other):
    check_row(one)
    check_row(other)
    if len(one) != len(other):
        raise Unlike("the two rows have other counts of shares")


def falling_sums(row):
    sums = []
    so_far = 0
    for share in sorted(row, reverse=True):
        so_far += share
        sums.append(so_far)
    return sums


# The count that speaks against gifts, or 0 if none does.
def top_against(one, other):
    ones = falling_sums(one)
    others = falling_sums(other)
    for place in range(len(ones)):
        if others[place] > ones[place]:
            return place + 1
    return 0


# Only for rows between which no count speaks against gifts: then whoever lacks finds enough spare among those
# with greater shares. A giver keeps its goal at least, a taker gets its goal at most, and goals fall from giver to
# taker, so each gift is fair. Each gift settles a giver or a taker and the last one both, so they are fewer than
# shares.
def gifts_between(one, other):
    places = sorted(range(len(one)), key=lambda place: one[place], reverse=True)
    goals = sorted(other, reverse=True)
    spare = [0] * len(one)
    givers = []
    gifts = []
    for place, goal in zip(places, goals):
        lack = goal - one[place]
        if lack < 0:
            spare[place] = -lack
            givers.append(place)
        while lack > 0:
            giver = givers[-1]
            amount = min(spare[giver], lack)
            gifts.append((giver, place, amount))
            lack -= amount
            spare[giver] -= amount
            if spare[giver] == 0:
                givers.pop()
    return gifts


def compared(one, other):
    check_pair(one, other)
    if sum(one) != sum(other):
        return Wholes(sum(one), sum(other))
    many = top_against(one, other)
    if many > 0:
        return Top(many)
    return Gifts(gifts_between(one, other))


def under(one, other):
    check_pair(one, other)
    if sum(one) != sum(other):
        raise Unlike("the two rows have other wholes")
    # Gifts lead just where no greatest shares are more together, so the row under both has of each count the
    # lesser sum. The lesser of two sums whose steps fall has falling steps too.
    row = []
    so_far = 0
    for first, second in zip(falling_sums(one), falling_sums(other)):
        row.append(min(first, second) - so_far)
        so_far = min(first, second)
    return row
