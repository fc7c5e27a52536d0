import unittest

from evenhand.errors import BadAmount, BadGifts, BadRow
from evenhand.rows import above, done, evenest, rising_sums
from samples import BOUND, NO_LISTS, NO_NUMBERS, ROWS, Stubborn, no_rows


class Refusals(unittest.TestCase):
    def refuses_each(self, error, call, values):
        for number, value in enumerate(values):
            with self.subTest(number=number, kind=type(value).__name__):
                with self.assertRaises(error):
                    call(value)

    def test_what_is_no_row_is_refused_at_each_door(self):
        self.refuses_each(BadRow, rising_sums, no_rows())
        self.refuses_each(BadRow, evenest, no_rows())
        self.refuses_each(BadRow, lambda row: above(row, 0), no_rows())
        self.refuses_each(BadRow, lambda row: done(row, []), no_rows())
        self.refuses_each(BadRow, lambda row: done(row, [(0, 1, 1)]), no_rows())

    def test_a_wrong_share_is_found_in_a_long_row(self):
        for place in (0, 999, 1999):
            for wrong in (True, 1.0, None, BOUND + 1, -BOUND - 1):
                row = [1] * 2000
                row[place] = wrong
                for call in (rising_sums, evenest, lambda row: above(row, 0), lambda row: done(row, [])):
                    with self.subTest(place=place, wrong=wrong), self.assertRaises(BadRow):
                        call(row)

    def test_shares_at_the_bounds_are_no_refusal(self):
        for row in ([BOUND], [-BOUND], [BOUND, -BOUND], [-BOUND, 0, BOUND]):
            self.assertEqual(done(row, []), row)
            self.assertEqual(len(rising_sums(row)), len(row))
            self.assertEqual(len(evenest(row)), len(row))
            self.assertEqual(above(row, BOUND), 0)

    def test_what_is_no_mark_is_refused(self):
        for row in ([0], [3, 1, 2]):
            self.refuses_each(BadAmount, lambda mark: above(row, mark), NO_NUMBERS)

    def test_what_is_no_list_of_gifts_is_refused(self):
        self.refuses_each(BadGifts, lambda gifts: done([3, 1], gifts), NO_LISTS)
        self.refuses_each(BadGifts, lambda gifts: done([3, 1], gifts), [((0, 1, 1),), {(0, 1, 1): 1}, {(0, 1, 1)}])
        self.refuses_each(BadGifts, lambda gifts: done([3, 1], gifts), [(0, 1, 1), [0, 1, 1]])

    def test_of_two_refusals_the_row_comes_first(self):
        for row in no_rows():
            with self.assertRaises(BadRow):
                above(row, None)
            with self.assertRaises(BadRow):
                above(row, Stubborn())
            with self.assertRaises(BadRow):
                done(row, None)
            with self.assertRaises(BadRow):
                done(row, [(0, 0, 0)])


class RisingSums(unittest.TestCase):
    def test_told(self):
        self.assertEqual(rising_sums([5]), [5])
        self.assertEqual(rising_sums([-5]), [-5])
        self.assertEqual(rising_sums([3, 1, 2]), [1, 3, 6])
        self.assertEqual(rising_sums([2, 2, 2]), [2, 4, 6])
        self.assertEqual(rising_sums([0, -4, 10, -4]), [-4, -8, -8, 2])
        self.assertEqual(rising_sums([BOUND, -BOUND, BOUND]), [-BOUND, 0, BOUND])
        self.assertEqual(rising_sums([11, 2, 100]), [2, 13, 113])

    def test_last_is_the_whole_and_steps_rise(self):
        for row in ROWS:
            sums = rising_sums(row)
            self.assertEqual(sums[-1], sum(row))
            steps = [sums[0]] + [sums[k] - sums[k - 1] for k in range(1, len(sums))]
            self.assertEqual(steps, sorted(row))

    def test_a_new_list_and_the_row_as_it_was(self):
        for row in ROWS:
            kept = list(row)
            first = rising_sums(row)
            self.assertIs(type(first), list)
            self.assertIsNot(first, row)
            first.append(None)
            self.assertEqual(row, kept)
            self.assertNotIn(None, rising_sums(row))

    def test_the_argument_bears_its_name(self):
        self.assertEqual(rising_sums(row=[2, 1]), [1, 3])


class Above(unittest.TestCase):
    def test_told(self):
        self.assertEqual(above([5], 3), 2)
        self.assertEqual(above([5], 5), 0)
        self.assertEqual(above([5], 6), 0)
        self.assertEqual(above([5, 1, 4, 4], 3), 4)
        self.assertEqual(above([5, 1, 4, 4], 0), 14)
        self.assertEqual(above([-5, -1, 0], -3), 5)
        self.assertEqual(above([-5, -1, 0], 0), 0)
        self.assertEqual(above([BOUND, -BOUND], -BOUND), 2 * BOUND)

    def test_marks_far_beyond_the_shares(self):
        self.assertEqual(above([BOUND, BOUND], BOUND + 1), 0)
        self.assertEqual(above([1, 2], 10 ** 30), 0)
        self.assertEqual(above([1, 2], -10 ** 30), 3 + 2 * 10 ** 30)
        self.assertEqual(above([-BOUND], -BOUND - 1), 1)

    def test_each_unit_above_counts_once(self):
        for row in ([9, 1, 4, 1, 0, -3, 12], [2], [-4, -4]):
            for mark in range(-6, 14):
                units = sum(len(range(mark, share)) for share in row)
                self.assertEqual(above(row, mark), units)

    def test_a_number_and_the_row_as_it_was(self):
        for row in ROWS:
            kept = list(row)
            self.assertIs(type(above(row, 1)), int)
            self.assertEqual(row, kept)

    def test_the_arguments_bear_their_names(self):
        self.assertEqual(above(mark=1, row=[2, 1]), 1)


class Done(unittest.TestCase):
    def refused(self, row, gifts):
        kept_row, kept_gifts = list(row), list(gifts)
        with self.assertRaises(BadGifts):
            done(row, gifts)
        self.assertEqual(row, kept_row)
        self.assertEqual(len(gifts), len(kept_gifts))

    def test_no_gifts(self):
        for row in ROWS:
            self.assertEqual(done(row, []), row)

    def test_fair_and_unfair_gifts(self):
        self.assertEqual(done([4, 0], [(0, 1, 1)]), [3, 1])
        self.assertEqual(done([4, 0], [(0, 1, 2)]), [2, 2])
        self.assertEqual(done([4, 0], [(0, 1, 3)]), [1, 3])
        self.assertEqual(done([4, 0], [(1, 0, 5)]), [9, -5])
        self.assertEqual(done([1, 1, 1], [(2, 0, 1)]), [2, 1, 0])
        self.assertEqual(done([-3, -9, -6], [(0, 1, 3)]), [-6, -6, -6])

    def test_one_behind_the_other(self):
        self.assertEqual(done([6, 0, 0], [(0, 1, 3), (1, 2, 1)]), [3, 2, 1])
        self.assertEqual(done([6, 0, 0], [(0, 1, 3), (0, 1, 3), (1, 2, 6)]), [0, 0, 6])
        self.assertEqual(done([1, 2], [(0, 1, 1)] * 5 + [(1, 0, 5)]), [1, 2])

    def test_places_that_are_not_there(self):
        for place in (-1, -2, -3, 2, 3, BOUND, 10 ** 30, -10 ** 30):
            self.refused([3, 1], [(place, 1, 1)])
            self.refused([3, 1], [(0, place, 1)])
            self.refused([3, 1], [(1, place, 1)])
            self.refused([3, 1], [(place, 0, 1)])
        self.refused([3], [(0, 1, 1)])
        self.refused([3], [(0, -1, 1)])

    def test_giver_and_taker_the_same(self):
        self.refused([3, 1], [(0, 0, 1)])
        self.refused([3, 1], [(1, 1, 1)])
        self.refused([3], [(0, 0, 1)])

    def test_an_amount_of_0_or_below(self):
        for amount in (0, -1, -2, -BOUND):
            self.refused([3, 1], [(0, 1, amount)])
            self.refused([3, 1], [(1, 0, amount)])

    def test_what_is_no_triple(self):
        class Own:
            pass

        for wrong in ([0, 1, 1], (), (0,), (0, 1), (0, 1, 1, 1), "011", b"011", None, True, 0, 1.0,
                      {0: 0, 1: 1, 2: 1}, range(3), Own(), Stubborn()):
            self.refused([3, 1], [wrong])
            self.refused([3, 1], [(0, 1, 1), wrong])
            self.refused([3, 1], [wrong, (0, 1, 1)])

    def test_what_is_no_whole_number_at_each_place_of_a_triple(self):
        for wrong in NO_NUMBERS:
            for place in range(3):
                gift = [0, 1, 1]
                gift[place] = wrong
                self.refused([3, 1], [tuple(gift)])
                self.refused([3, 1], [(0, 1, 1), tuple(gift)])
                gift = [1, 0, 1]
                gift[place] = wrong
                self.refused([3, 1, 2], [tuple(gift)])

    def test_a_later_gift_is_looked_at_too(self):
        self.refused([3, 1], [(0, 1, 1), (0, 2, 1)])
        self.refused([3, 1], [(0, 1, 1), (0, 1, 0)])
        self.refused([3, 1], [(0, 1, 1), (0, 1, 1), (1, 1, 1)])

    def test_up_to_the_bounds(self):
        self.assertEqual(done([BOUND - 1, 5], [(1, 0, 1)]), [BOUND, 4])
        self.assertEqual(done([1 - BOUND, 5], [(0, 1, 1)]), [-BOUND, 6])
        self.assertEqual(done([BOUND, -BOUND], [(0, 1, 2 * BOUND)]), [-BOUND, BOUND])

    def test_beyond_the_bounds(self):
        self.refused([BOUND, 5], [(1, 0, 1)])
        self.refused([-BOUND, 5], [(0, 1, 1)])
        self.refused([BOUND, -BOUND], [(0, 1, 2 * BOUND + 1)])
        self.refused([0, 0], [(0, 1, 10 ** 30)])
        self.refused([BOUND, BOUND], [(0, 1, 1)])
        self.refused([-BOUND, -BOUND], [(0, 1, 1)])

    def test_beyond_the_bounds_on_the_way_alone(self):
        self.refused([BOUND, 5], [(1, 0, 1), (0, 1, 1)])
        self.refused([-BOUND, 5], [(0, 1, 1), (1, 0, 1)])
        self.refused([BOUND, 5, 0], [(1, 0, 1), (0, 2, 1)])
        self.refused([-BOUND, 5, 9], [(0, 1, 1), (2, 0, 1)])

    def test_new_and_nothing_changed(self):
        row = [6, 0, 0]
        gifts = [(0, 1, 3), (1, 2, 1)]
        behind = done(row, gifts)
        self.assertIs(type(behind), list)
        self.assertEqual(row, [6, 0, 0])
        self.assertEqual(gifts, [(0, 1, 3), (1, 2, 1)])
        behind[0] = 99
        self.assertEqual(row, [6, 0, 0])
        self.assertEqual(done(row, gifts), [3, 2, 1])
        same = done(row, [])
        self.assertIsNot(same, row)

    def test_the_arguments_bear_their_names(self):
        self.assertEqual(done(gifts=[(0, 1, 1)], row=[2, 0]), [1, 1])


class Evenest(unittest.TestCase):
    def test_told(self):
        self.assertEqual(evenest([5]), [5])
        self.assertEqual(evenest([-5]), [-5])
        self.assertEqual(evenest([0, 7]), [4, 3])
        self.assertEqual(evenest([0, -7]), [-3, -4])
        self.assertEqual(evenest([10, 0, 0, 0]), [3, 3, 2, 2])
        self.assertEqual(evenest([-10, 0, 0, 0]), [-2, -2, -3, -3])
        self.assertEqual(evenest([4, 4, 4]), [4, 4, 4])
        self.assertEqual(evenest([3, 4]), [4, 3])
        self.assertEqual(evenest([1, -1, 1]), [1, 0, 0])
        self.assertEqual(evenest([BOUND, -BOUND]), [0, 0])
        self.assertEqual(evenest([BOUND] * 3), [BOUND] * 3)
        self.assertEqual(evenest([-BOUND] * 3), [-BOUND] * 3)
        self.assertEqual(evenest([BOUND, BOUND - 1]), [BOUND, BOUND - 1])

    def test_as_many_of_the_same_whole_falling_and_no_two_far_apart(self):
        for row in ROWS:
            level = evenest(row)
            self.assertEqual(len(level), len(row))
            self.assertEqual(sum(level), sum(row))
            self.assertEqual(level, sorted(level, reverse=True))
            self.assertLessEqual(level[0] - level[-1], 1)

    def test_a_new_list_and_the_row_as_it_was(self):
        for row in ROWS + [[2, 1], [3, 3, 3]]:
            kept = list(row)
            level = evenest(row)
            self.assertIs(type(level), list)
            self.assertIsNot(level, row)
            level.append(None)
            self.assertEqual(row, kept)
            self.assertNotIn(None, evenest(row))

    def test_the_argument_bears_its_name(self):
        self.assertEqual(evenest(row=[2, 0]), [1, 1])


class LongRows(unittest.TestCase):
    def test_as_many_shares_as_one_likes(self):
        many = 100000
        row = [(k * 7919) % 2000001 - BOUND for k in range(many)]
        sums = rising_sums(row)
        self.assertEqual(len(sums), many)
        self.assertEqual(sums[-1], sum(row))
        self.assertEqual(above(row, -BOUND - 1), sum(row) + many * (BOUND + 1))
        self.assertEqual(sum(evenest(row)), sum(row))
        gifts = [(k, k + 1, 1) for k in range(many - 1)]
        self.assertEqual(done([0] * many, gifts), [-1] + [0] * (many - 2) + [1])


if __name__ == "__main__":
    unittest.main()
