"""Values that more than one test file hands in."""

from collections import deque
from decimal import Decimal
from fractions import Fraction
from itertools import combinations_with_replacement, permutations


class Stubborn:
    """An object that answers nothing but what kind it is."""

    def refuse(self, *args):
        raise RuntimeError("not to be asked")

    __eq__ = __lt__ = __le__ = __gt__ = __ge__ = refuse
    __bool__ = __len__ = __iter__ = __getitem__ = __hash__ = refuse
    __int__ = __index__ = __repr__ = __str__ = refuse


NO_NUMBERS = [
    None, True, False, "", "1", b"1", 1.0, 0.5, float("nan"), float("inf"), 1j, Decimal(1), Fraction(1),
    [], [1], (), (1,), {}, {1: 1}, {1}, range(1), int, len, object(), Stubborn(),
]

NO_LISTS = [
    None, True, False, 0, 1, -1, 1.0, "", "1", "1 2", b"12", (), (1,), (1, 2), {}, {0: 1}, set(), {1, 2},
    range(1, 3), iter([1, 2]), deque([1, 2]), int, list, object(), Stubborn(),
]

BOUND = 1000000

ROWS = [
    [0], [7], [-7], [BOUND], [-BOUND],
    [3, 3], [1, 2], [2, 1], [0, 0, 0], [-1, -2, -3], [5, -5, 0, 5],
    [BOUND, -BOUND], [-BOUND, BOUND, BOUND], [BOUND] * 5, [-BOUND] * 5,
    [9, 1, 4, 1, 0, -3, 12], [-7, -7, -6], [10, 0, 0, 0],
]


def no_rows():
    """All sorts of values that are no rows, wrong shares at each place among them."""
    rows = list(NO_LISTS)
    rows.append([])
    for wrong in NO_NUMBERS + [BOUND + 1, -BOUND - 1, 10 ** 5000, -10 ** 5000]:
        for place in range(4):
            row = [5, 0, -5, 2]
            row[place] = wrong
            rows.append(row)
        rows.append([wrong])
    looped = []
    looped.append(looped)
    rows.append(looped)
    return rows


def drawn_row(draw, count, least, most):
    return [draw.randint(least, most) for place in range(count)]


def drawn_like(draw, row, least, most):
    """A drawn row of as many shares and the same whole as the row, whose shares lie from the least to the most."""
    other = drawn_row(draw, len(row), least, most)
    missing = sum(row) - sum(other)
    for place in draw.sample(range(len(row)), len(row)):
        step = max(least - other[place], min(most - other[place], missing))
        other[place] += step
        missing -= step
    return other


def evened(draw, row, many):
    """The row behind so many drawn fair gifts, its shares in a drawn order."""
    behind = list(row)
    for turn in range(many):
        giver, taker = draw.randrange(len(row)), draw.randrange(len(row))
        if behind[giver] - behind[taker] >= 2:
            amount = draw.randint(1, (behind[giver] - behind[taker]) // 2)
            behind[giver] -= amount
            behind[taker] += amount
    draw.shuffle(behind)
    return behind


def all_rows(count, least, most):
    """Every row of so many shares, but each in one order alone."""
    return [list(row) for row in combinations_with_replacement(range(least, most + 1), count)]


def led_to(row):
    """All rows, each as a rising tuple, to which fair gifts lead from the row, found by trying all gifts."""
    found = {tuple(sorted(row))}
    fresh = list(found)
    while fresh:
        start = fresh.pop()
        for giver, taker in permutations(range(len(start)), 2):
            for amount in range(1, (start[giver] - start[taker]) // 2 + 1):
                behind = list(start)
                behind[giver] -= amount
                behind[taker] += amount
                behind = tuple(sorted(behind))
                if behind not in found:
                    found.add(behind)
                    fresh.append(behind)
    return found
