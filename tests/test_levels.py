import random
import sys
import unittest

from evenhand.errors import BadAmount
from evenhand.levels import poured, taken
from evenhand.rows import above
from samples import BOUND, NO_NUMBERS, ROWS, drawn_row

MOST = 1000000000


def taken_one_by_one(row, amount):
    behind = list(row)
    for turn in range(amount):
        behind[behind.index(max(behind))] -= 1
    return behind


def poured_one_by_one(row, amount):
    behind = list(row)
    for turn in range(amount):
        behind[behind.index(min(behind))] += 1
    return behind


def drawn_rows():
    draw = random.Random(30)
    rows = [drawn_row(draw, count, -reach, reach) for count in range(1, 9) for reach in (0, 1, 2, 5, 10, 10)]
    rows += [[share + BOUND - 300 for share in row] for row in rows]
    rows += [[-share for share in row] for row in rows]
    return rows


def steps(call, row, amount, most):
    """How long a call takes, told by its steps and not by a clock; it is broken off behind the most."""
    count = 0

    def step(frame, event, arg):
        nonlocal count
        count += 1
        if count > most:
            raise AssertionError(f"{call.__name__}: more than {most} steps for {len(row)} shares and {amount}")
        return step

    before = sys.gettrace()
    sys.settrace(step)
    try:
        call(row, amount)
    finally:
        sys.settrace(before)
    return count


def check_steps():
    for call, share, down in ((taken, BOUND, 1), (poured, -BOUND, -1)):
        for count in (1, 10, 1000):
            row = [share - down * place for place in range(count)]
            for amount in (1, 1000, BOUND, BOUND * count):
                steps(call, row, amount, 2000 + 100 * count)


def setUpModule():
    # Ahead of all: were the time to grow with the amount, the tests below would hang and not fail.
    check_steps()


class Levels(unittest.TestCase):
    def refused(self, call, row, amount):
        kept = list(row)
        with self.assertRaises(BadAmount):
            call(row, amount)
        self.assertEqual(row, kept)


class Told(Levels):
    def test_taken(self):
        self.assertEqual(taken([5], 3), [2])
        self.assertEqual(taken([5], 8), [-3])
        self.assertEqual(taken([5, 3], 1), [4, 3])
        self.assertEqual(taken([5, 3], 2), [3, 3])
        self.assertEqual(taken([5, 3], 3), [2, 3])
        self.assertEqual(taken([5, 3], 4), [2, 2])
        self.assertEqual(taken([3, 5], 3), [2, 3])
        self.assertEqual(taken([1, 1, 1], 2), [0, 0, 1])
        self.assertEqual(taken([0, 2, 0, 2], 3), [0, 0, 0, 1])
        self.assertEqual(taken([0, 2, 0, 2], 6), [-1, -1, 0, 0])
        self.assertEqual(taken([-2, -1], 2), [-3, -2])
        self.assertEqual(taken([9, 0, 0], 4), [5, 0, 0])

    def test_poured(self):
        self.assertEqual(poured([5], 3), [8])
        self.assertEqual(poured([-5], 8), [3])
        self.assertEqual(poured([5, 3], 1), [5, 4])
        self.assertEqual(poured([5, 3], 2), [5, 5])
        self.assertEqual(poured([5, 3], 3), [6, 5])
        self.assertEqual(poured([3, 5], 3), [6, 5])
        self.assertEqual(poured([1, 1, 1], 2), [2, 2, 1])
        self.assertEqual(poured([0, 2, 0, 2], 3), [2, 2, 1, 2])
        self.assertEqual(poured([0, 2, 0, 2], 6), [3, 3, 2, 2])
        self.assertEqual(poured([-2, -1], 2), [0, -1])
        self.assertEqual(poured([0, 9, 9], 4), [4, 9, 9])

    def test_nothing_taken_and_nothing_given(self):
        for row in ROWS:
            self.assertEqual(taken(row, 0), row)
            self.assertEqual(poured(row, 0), row)

    def test_against_one_by_one(self):
        for row in drawn_rows():
            for amount in list(range(40)) + [97, 200]:
                with self.subTest(row=row, amount=amount):
                    self.assertEqual(taken(row, amount), taken_one_by_one(row, amount))
                    self.assertEqual(poured(row, amount), poured_one_by_one(row, amount))

    def test_at_once_and_in_two_parts(self):
        draw = random.Random(31)
        for count in (1, 2, 3, 10, 1000):
            for reach in (0, 3, 1000, BOUND // 2):
                row = drawn_row(draw, count, -reach, reach)
                for amount in (1, 7, 400 * count, BOUND // 4 * count):
                    part = draw.randint(0, amount)
                    with self.subTest(count=count, reach=reach, amount=amount, part=part):
                        self.assertEqual(taken(taken(row, part), amount - part), taken(row, amount))
                        self.assertEqual(poured(poured(row, part), amount - part), poured(row, amount))

    def test_so_much_in_all_and_from_the_greatest_alone(self):
        draw = random.Random(32)
        for count in (1, 5, 300):
            row = drawn_row(draw, count, -BOUND // 2, BOUND // 2)
            for amount in (0, 1, 12345, 400000 * count // 3):
                less, more = taken(row, amount), poured(row, amount)
                self.assertEqual(sum(row) - sum(less), amount)
                self.assertEqual(sum(more) - sum(row), amount)
                # Nobody gave who is not among the greatest behind it, and nobody got who is not among the least.
                for before, low, high in zip(row, less, more):
                    self.assertTrue(low == before or low >= max(less) - 1)
                    self.assertTrue(high == before or high <= min(more) + 1)
                self.assertLessEqual(above(row, max(less)), amount)


class Bounds(Levels):
    def test_down_to_the_bound_and_beyond(self):
        self.assertEqual(taken([1 - BOUND], 1), [-BOUND])
        self.assertEqual(taken([BOUND], 2 * BOUND), [-BOUND])
        self.assertEqual(taken([-BOUND, 5 - BOUND], 5), [-BOUND, -BOUND])
        self.assertEqual(taken([3, -BOUND], 2), [1, -BOUND])
        self.assertEqual(taken([2 - BOUND, 2 - BOUND], 3), [-BOUND, 1 - BOUND])
        self.refused(taken, [-BOUND], 1)
        self.refused(taken, [1 - BOUND], 2)
        self.refused(taken, [BOUND], 2 * BOUND + 1)
        self.refused(taken, [-BOUND, 5 - BOUND], 6)
        self.refused(taken, [-BOUND, -BOUND, -BOUND], 1)
        self.refused(taken, [2 - BOUND, 2 - BOUND], 5)

    def test_up_to_the_bound_and_beyond(self):
        self.assertEqual(poured([BOUND - 1], 1), [BOUND])
        self.assertEqual(poured([-BOUND], 2 * BOUND), [BOUND])
        self.assertEqual(poured([BOUND, BOUND - 5], 5), [BOUND, BOUND])
        self.assertEqual(poured([3, BOUND], 2), [5, BOUND])
        self.assertEqual(poured([BOUND - 2, BOUND - 2], 3), [BOUND, BOUND - 1])
        self.refused(poured, [BOUND], 1)
        self.refused(poured, [BOUND - 1], 2)
        self.refused(poured, [-BOUND], 2 * BOUND + 1)
        self.refused(poured, [BOUND, BOUND - 5], 6)
        self.refused(poured, [BOUND, BOUND, BOUND], 1)
        self.refused(poured, [BOUND - 2, BOUND - 2], 5)

    def test_all_that_is_there_and_one_more(self):
        draw = random.Random(33)
        for count in (1, 2, 7, 400):
            row = drawn_row(draw, count, -BOUND, BOUND)
            self.assertEqual(taken(row, sum(row) + count * BOUND), [-BOUND] * count)
            self.refused(taken, row, sum(row) + count * BOUND + 1)
            self.assertEqual(poured(row, count * BOUND - sum(row)), [BOUND] * count)
            self.refused(poured, row, count * BOUND - sum(row) + 1)

    def test_the_greatest_amount(self):
        self.assertEqual(taken([BOUND] * 500, MOST), [-BOUND] * 500)
        self.assertEqual(poured([-BOUND] * 500, MOST), [BOUND] * 500)
        self.refused(taken, [BOUND] * 499, MOST)
        self.refused(taken, [BOUND] * 499 + [BOUND - 1], MOST)
        self.refused(poured, [-BOUND] * 499, MOST)
        self.refused(poured, [-BOUND] * 499 + [1 - BOUND], MOST)
        self.refused(taken, [0], MOST)
        self.refused(poured, [0], MOST)

    def test_amounts_beyond_the_greatest_and_below_0(self):
        for row in ([0], [0] * 2000, [BOUND] * 2000, [-BOUND] * 2000):
            for amount in (-1, -2, -MOST, MOST + 1, 10 ** 30, -10 ** 30, 10 ** 5000, -10 ** 5000):
                self.refused(taken, row, amount)
                self.refused(poured, row, amount)

    def test_what_is_no_whole_number(self):
        for row in ([0], [3, 1, 2]):
            for number, amount in enumerate(NO_NUMBERS):
                with self.subTest(number=number):
                    self.refused(taken, row, amount)
                    self.refused(poured, row, amount)


class LongRows(Levels):
    def test_the_time_does_not_grow_with_the_amount(self):
        check_steps()

    def test_the_greatest_amount_from_a_long_row(self):
        many = 100000
        self.assertEqual(taken([0] * many, MOST), [-10000] * many)
        self.assertEqual(poured([0] * many, MOST), [10000] * many)
        self.assertEqual(taken([0] * many, MOST - 1), [-10000] * (many - 1) + [-9999])
        self.assertEqual(poured([0] * many, MOST - 1), [10000] * (many - 1) + [9999])
        draw = random.Random(34)
        row = drawn_row(draw, many, -BOUND, BOUND)
        less, more = taken(row, MOST), poured(row, MOST)
        self.assertEqual(sum(row) - sum(less), MOST)
        self.assertEqual(sum(more) - sum(row), MOST)
        greatest, least = max(less), min(more)
        for before, low, high in zip(row, less, more):
            self.assertIn(low, (before, greatest, greatest - 1))
            self.assertIn(high, (before, least, least + 1))
        self.assertEqual(taken(taken(row, 123456789), MOST - 123456789), less)
        self.assertEqual(poured(poured(row, 123456789), MOST - 123456789), more)

    def test_more_shares_than_the_amount(self):
        many = 50000
        self.assertEqual(taken([4] * many, 3), [3] * 3 + [4] * (many - 3))
        self.assertEqual(poured([4] * many, 3), [5] * 3 + [4] * (many - 3))


class Kept(Levels):
    def test_new_and_the_row_as_it_was(self):
        for call in (taken, poured):
            for row in ([3, 1, 2], [0], [5, 5, 5]):
                for amount in (0, 1, 2, 3, 10):
                    kept = list(row)
                    behind = call(row, amount)
                    self.assertIs(type(behind), list)
                    self.assertEqual([type(share) for share in behind], [int] * len(row))
                    self.assertIsNot(behind, row)
                    told = list(behind)
                    behind.append(None)
                    behind[0] = None
                    self.assertEqual(row, kept)
                    self.assertEqual(call(row, amount), told)

    def test_the_arguments_bear_their_names(self):
        self.assertEqual(taken(amount=1, row=[2, 1]), [1, 1])
        self.assertEqual(poured(amount=1, row=[2, 1]), [2, 2])


if __name__ == "__main__":
    unittest.main()
