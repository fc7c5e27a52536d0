"""What is told of two rows: gifts that lead from one to the other, or what shows that none do."""

from evenhand.checks import is_gift
from evenhand.rows import give


class Answer:
    pass


class Gifts(Answer):
    def __init__(self, gifts):
        self.gifts = list(gifts)

    def shows(self, one, other):
        if len(one) != len(other) or len(self.gifts) >= len(one):
            return False
        behind = list(one)
        for gift in self.gifts:
            if not is_gift(gift, len(behind)):
                return False
            give(behind, gift)
            if behind[gift[0]] < behind[gift[1]]:
                return False
        return sorted(behind) == sorted(other)


class Top(Answer):
    def __init__(self, many):
        self.many = many

    def shows(self, one, other):
        # Rows of different wholes are for Wholes to tell of, whatever their greatest shares are.
        if len(one) != len(other) or sum(one) != sum(other):
            return False
        if not 1 <= self.many <= len(one):
            return False
        return top_sum(other, self.many) > top_sum(one, self.many)


class Wholes(Answer):
    def __init__(self, one, other):
        self.one = one
        self.other = other

    def shows(self, one, other):
        if len(one) != len(other):
            return False
        return self.one == sum(one) and self.other == sum(other) and self.one != self.other


def top_sum(row, many):
    return sum(sorted(row, reverse=True)[:many])
