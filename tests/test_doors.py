"""What holds at every door of the program: refusals and their order, nothing changed or kept, what is told new."""

import copy
import unittest

from evenhand.answers import Gifts
from evenhand.errors import BadAmount, BadGifts, BadRow, BadText, ShareError, Unlike
from evenhand.gifts import compared, under
from evenhand.levels import poured, taken
from evenhand.rows import above, done, evenest, rising_sums
from evenhand.texts import read, written
from samples import BOUND, NO_NUMBERS, ROWS, Stubborn, no_rows

MOST = 1000000000

# Each door with a row, and with something behind the row that is right.
ROW_DOORS = [
    ("rising_sums", rising_sums),
    ("above", lambda row: above(row, 0)),
    ("done", lambda row: done(row, [])),
    ("evenest", evenest),
    ("taken", lambda row: taken(row, 0)),
    ("poured", lambda row: poured(row, 0)),
    ("written", written),
]

PAIR_DOORS = [("compared", compared), ("under", under)]

# Each door with something behind the row that is refused too, if the row is not.
SECOND_DOORS = [
    (BadAmount, above, [None, True, 1.0, "1", Stubborn()]),
    (BadGifts, done, [None, (), "", [None], [(0, 0, 0)], [(0, 9, 1)], Stubborn()]),
    (BadAmount, taken, [None, True, 1.0, "1", -1, MOST + 1, Stubborn()]),
    (BadAmount, poured, [None, True, 1.0, "1", -1, MOST + 1, Stubborn()]),
]


def all_told(row):
    """A list for each door that tells one."""
    return [
        rising_sums(row), done(row, []), evenest(row), taken(row, 0), poured(row, 0), read(written(row)),
        under(row, row), compared(row, evenest(row)).gifts, compared(row, row).gifts,
    ]


class Refusals(unittest.TestCase):
    def refuses(self, error, call, *values):
        with self.assertRaises(error) as caught:
            call(*values)
        self.assertIs(type(caught.exception), error)
        self.assertIsInstance(caught.exception, ShareError)
        # Whoever shows the refusal must be able to, whatever was handed in.
        self.assertIs(type(str(caught.exception)), str)

    def test_what_is_no_row(self):
        for name, call in ROW_DOORS:
            for number, row in enumerate(no_rows()):
                with self.subTest(door=name, number=number):
                    self.refuses(BadRow, call, row)

    def test_what_is_no_row_as_the_one_or_the_other(self):
        for name, call in PAIR_DOORS:
            for number, row in enumerate(no_rows()):
                with self.subTest(door=name, number=number):
                    self.refuses(BadRow, call, row, [5, 0, -5, 2])
                    self.refuses(BadRow, call, [5, 0, -5, 2], row)
                    self.refuses(BadRow, call, row, row)

    def test_what_is_no_row_comes_ahead_of_rows_unlike(self):
        for name, call in PAIR_DOORS:
            for number, row in enumerate(no_rows()):
                for like in ([1], [1, 1], [1, 1, 1, 1, 1], [BOUND] * 4):
                    with self.subTest(door=name, number=number):
                        self.refuses(BadRow, call, row, like)
                        self.refuses(BadRow, call, like, row)

    def test_what_is_no_row_comes_ahead_of_what_stands_behind_it(self):
        for error, call, wrongs in SECOND_DOORS:
            for wrong in wrongs:
                self.refuses(error, call, [3, 1], wrong)
                for number, row in enumerate(no_rows()):
                    with self.subTest(door=call.__name__, number=number):
                        self.refuses(BadRow, call, row, wrong)

    def test_a_row_that_an_amount_takes_beyond_the_bounds(self):
        self.refuses(BadAmount, taken, [-BOUND], 1)
        self.refuses(BadAmount, poured, [BOUND], 1)
        self.refuses(BadRow, taken, [-BOUND - 1], 1)
        self.refuses(BadRow, poured, [BOUND + 1], 1)

    def test_other_counts(self):
        for name, call in PAIR_DOORS:
            for one, other in (([1], [1, 0]), ([1, 0], [1]), ([0], [0] * 9), ([3, 1, 2], [3, 3]), ([1, 2], [4, 5, 6])):
                with self.subTest(door=name, one=one, other=other):
                    self.refuses(Unlike, call, one, other)

    def test_other_wholes(self):
        for one, other in (([1], [2]), ([1, 0], [0, 0]), ([3, 1], [4, 1]), ([BOUND], [-BOUND]), ([1, 2, 3], [1, 2, 4])):
            self.refuses(Unlike, under, one, other)
            self.refuses(Unlike, under, other, one)

    def test_rows_at_the_bounds_are_no_refusal(self):
        for row in ([BOUND], [-BOUND], [BOUND, -BOUND], [-BOUND, 0, BOUND], [BOUND] * 9):
            for name, call in ROW_DOORS:
                call(row)
            for name, call in PAIR_DOORS:
                call(row, row)

    def test_a_wrong_share_deep_in_a_long_row(self):
        right = [1] * 2000
        for place in (0, 999, 1999):
            for wrong in (True, False, 1.0, None, "1", BOUND + 1, -BOUND - 1):
                row = list(right)
                row[place] = wrong
                for name, call in ROW_DOORS:
                    self.refuses(BadRow, call, row)
                for name, call in PAIR_DOORS:
                    self.refuses(BadRow, call, row, right)
                    self.refuses(BadRow, call, right, row)

    def test_what_is_no_text(self):
        values = [value for value in no_rows() + NO_NUMBERS + ROWS if not isinstance(value, str)]
        for number, value in enumerate(values):
            with self.subTest(number=number):
                self.refuses(BadText, read, value)

    def test_refused_once_refused_again_and_nothing_else_is(self):
        for turn in range(2):
            self.refuses(BadRow, evenest, [])
            self.refuses(Unlike, compared, [1], [1, 2])
            self.refuses(BadAmount, taken, [1], -1)
            self.refuses(BadText, read, "")
            self.assertEqual(evenest([2, 0]), [1, 1])
            self.assertEqual(taken([1], 1), [0])
            self.assertEqual(read("1"), [1])


class Kept(unittest.TestCase):
    def test_rows_handed_in_stay(self):
        for row in ROWS:
            kept = copy.deepcopy(row)
            for name, call in ROW_DOORS:
                call(row)
                self.assertEqual(row, kept, name)
            for name, call in PAIR_DOORS:
                for other in (list(reversed(row)), evenest(row)):
                    like = list(other)
                    call(row, other)
                    call(other, row)
                    self.assertEqual((row, other), (kept, like), name)

    def test_rows_that_are_refused_stay(self):
        one, other = [3, -BOUND, 1], [0, 2]
        for call in (compared, under):
            with self.assertRaises(Unlike):
                call(one, other)
        with self.assertRaises(BadAmount):
            taken(one, 2 * BOUND + 5)
        with self.assertRaises(BadAmount):
            poured(one, -1)
        self.assertEqual((one, other), ([3, -BOUND, 1], [0, 2]))

    def test_lists_told_are_lists_of_their_own(self):
        for row in ROWS:
            kept = list(row)
            for number, told in enumerate(all_told(row)):
                with self.subTest(row=row, number=number):
                    self.assertIs(type(told), list)
                    self.assertIsNot(told, row)
                    self.assertIsNot(told, all_told(row)[number])
                    later = all_told(row)[number]
                    told.clear()
                    told.append(None)
                    self.assertEqual(all_told(row)[number], later)
                    self.assertEqual(row, kept)

    def test_an_answer_keeps_nothing_of_the_rows(self):
        one, other = [4, 0, 1], [2, 2, 1]
        answer = compared(one, other)
        kept = list(answer.gifts)
        one[0] = other[0] = 99
        one.append(5)
        self.assertEqual(answer.gifts, kept)
        self.assertIs(answer.shows([4, 0, 1], [2, 2, 1]), True)
        wholes = compared(one, [0] * 4)
        one.clear()
        self.assertEqual((wholes.one, wholes.other), (105, 0))

    def test_one_door_leaves_nothing_behind_for_another(self):
        first = [compared([6, 0, 0], [3, 2, 1]).gifts, under([4, 1, 1], [3, 3, 0]), taken([5, 3], 3), read("1 2")]
        compared([0, 6, 0], [2, 2, 2]).gifts.clear()
        under([9, 0, 0], [8, 1, 0]).clear()
        taken([7, 7], 9).clear()
        read("3 4").clear()
        again = [compared([6, 0, 0], [3, 2, 1]).gifts, under([4, 1, 1], [3, 3, 0]), taken([5, 3], 3), read("1 2")]
        self.assertEqual(first, again)

    def test_gifts_told_can_be_done(self):
        for row in ROWS:
            answer = compared(row, evenest(row))
            self.assertIs(type(answer), Gifts)
            self.assertEqual(sorted(done(row, answer.gifts), reverse=True), evenest(row))


if __name__ == "__main__":
    unittest.main()
