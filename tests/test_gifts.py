import itertools
import random
import unittest

from evenhand.answers import Answer, Gifts, Top, Wholes
from evenhand.gifts import compared, under
from evenhand.rows import above, done, evenest, rising_sums
from samples import BOUND, ROWS, all_rows, drawn_like, drawn_row, evened, led_to


def top_sums(row):
    return list(itertools.accumulate(sorted(row, reverse=True)))


def drawn_pairs():
    """Pairs of one whole and of others, short and long, near to one another and far apart, the same each time."""
    draw = random.Random(20)
    for count in (1, 2, 2, 3, 3, 4, 5, 6, 7, 10, 20, 50, 200):
        for reach in (1, 2, 5, 30, 1000, BOUND):
            one = drawn_row(draw, count, -reach, reach)
            yield one, drawn_row(draw, count, -reach, reach)
            yield one, drawn_like(draw, one, -reach, reach)
            for many in (1, count, 5 * count):
                yield one, evened(draw, one, many)
            yield one, draw.sample(one, count)
            yield one, evenest(one)


class Pairs(unittest.TestCase):
    def led(self, one, other):
        """The gifts told, held against each word of the points 2 and 3."""
        answer = compared(one, other)
        self.assertIs(type(answer), Gifts, (one, other))
        self.assertIs(type(answer.gifts), list)
        self.assertLess(len(answer.gifts), len(one))
        behind = list(one)
        for gift in answer.gifts:
            self.assertIs(type(gift), tuple)
            self.assertEqual([type(part) for part in gift], [int, int, int])
            giver, taker, amount = gift
            self.assertIn(giver, range(len(one)))
            self.assertIn(taker, range(len(one)))
            self.assertNotEqual(giver, taker)
            self.assertGreater(amount, 0)
            behind[giver] -= amount
            behind[taker] += amount
            self.assertGreaterEqual(behind[giver], behind[taker])
        self.assertEqual(sorted(behind), sorted(other))
        self.assertEqual(done(one, answer.gifts), behind)
        self.assertIs(answer.shows(one, other), True)
        return answer.gifts

    def topped(self, one, other):
        answer = compared(one, other)
        self.assertIs(type(answer), Top, (one, other))
        self.assertIs(type(answer.many), int)
        self.assertIn(answer.many, range(1, len(one)))
        self.assertEqual(sum(one), sum(other))
        self.assertGreater(top_sums(other)[answer.many - 1], top_sums(one)[answer.many - 1])
        self.assertIs(answer.shows(one, other), True)
        return answer.many

    def unlike_wholes(self, one, other):
        answer = compared(one, other)
        self.assertIs(type(answer), Wholes, (one, other))
        self.assertEqual((answer.one, answer.other), (sum(one), sum(other)))
        self.assertNotEqual(sum(one), sum(other))
        self.assertIs(answer.shows(one, other), True)

    def held(self, one, other):
        """Which of the three must be told is reckoned here by the sums of the greatest shares."""
        if sum(one) != sum(other):
            self.unlike_wholes(one, other)
        elif all(first >= second for first, second in zip(top_sums(one), top_sums(other))):
            self.led(one, other)
        else:
            self.topped(one, other)


class Compared(Pairs):
    def test_wholes_that_differ(self):
        self.unlike_wholes([3], [4])
        self.unlike_wholes([4], [3])
        self.unlike_wholes([3, 1], [3, 2])
        self.unlike_wholes([5, 0], [3, 1])
        self.unlike_wholes([-1, -1], [1, 1])
        self.unlike_wholes([0, 0], [BOUND, BOUND])
        self.unlike_wholes([-BOUND] * 3, [BOUND] * 3)

    def test_gifts_that_lead_there(self):
        self.assertEqual(self.led([4, 0], [2, 2]), [(0, 1, 2)])
        self.assertEqual(self.led([0, 4], [2, 2]), [(1, 0, 2)])
        self.assertEqual(self.led([4, 0], [1, 3]), [(0, 1, 1)])
        self.assertEqual(self.led([BOUND, -BOUND], [0, 0]), [(0, 1, BOUND)])
        self.led([6, 0, 0], [1, 2, 3])
        self.led([0, 6, 0], [2, 2, 2])
        self.led([0, 0, 0, 4], [1, 1, 1, 1])
        self.led([4, 4, 4, 0], [3, 3, 3, 3])
        self.led([4, 2, -2, -4], [1, 1, -1, -1])
        self.led([-3, -9, -6], [-6, -6, -6])
        self.led([5, 5, 0, 0], [4, 4, 1, 1])
        self.led([7, 3, 3, 3, -1], [3, 3, 3, 3, 3])

    def test_no_gifts_lead_there(self):
        self.assertEqual(self.topped([3, 1], [4, 0]), 1)
        self.assertEqual(self.topped([2, 2], [1, 3]), 1)
        self.assertEqual(self.topped([0, 0], [-BOUND, BOUND]), 1)
        self.assertEqual(self.topped([4, 1, 1], [3, 0, 3]), 2)
        self.assertEqual(self.topped([4, 1, 1, 0], [3, 3, 0, 0]), 2)
        self.topped([3, 3, 3, 3], [4, 4, 4, 0])
        self.topped([5, 5, 5, 1], [6, 4, 3, 3])
        self.assertEqual(self.topped([6, 4, 3, 3], [5, 5, 5, 1]), 3)

    def test_rows_neither_of_which_leads_to_the_other(self):
        for one, other in (([4, 1, 1], [3, 3, 0]), ([5, 5, 5, 1], [6, 4, 3, 3]), ([9, 0, 0, -9], [8, 8, -8, -8])):
            self.topped(one, other)
            self.topped(other, one)

    def test_a_row_and_itself(self):
        for row in ROWS:
            self.assertEqual(self.led(row, row), [])
            self.assertEqual(self.led(row, list(row)), [])

    def test_the_same_shares_in_another_order(self):
        for row in ROWS:
            for other in (list(reversed(row)), sorted(row), sorted(row, reverse=True), row[1:] + row[:1]):
                self.assertEqual(self.led(row, other), [])
        for other in itertools.permutations([3, 1, 1, 0]):
            self.assertEqual(self.led([1, 3, 0, 1], list(other)), [])

    def test_rows_of_one_share(self):
        for share in (0, 1, -1, BOUND, -BOUND):
            self.assertEqual(self.led([share], [share]), [])
            self.unlike_wholes([share], [share + 1 if share < BOUND else 0])

    def test_drawn_pairs_both_ways_round(self):
        told = {Gifts: 0, Top: 0, Wholes: 0}
        for one, other in drawn_pairs():
            self.held(one, other)
            self.held(other, one)
            told[type(compared(one, other))] += 1
            told[type(compared(other, one))] += 1
        self.assertGreater(min(told.values()), 50)

    def test_one_kind_and_an_answer(self):
        for one, other in drawn_pairs():
            answer = compared(one, other)
            self.assertIsInstance(answer, Answer)
            self.assertIn(type(answer), (Gifts, Top, Wholes))

    def test_all_small_rows_against_all_gifts_tried(self):
        for count, least, most in ((1, -2, 2), (2, -3, 4), (3, -2, 4), (4, -1, 3), (5, 0, 3)):
            rows = all_rows(count, least, most)
            for one in rows:
                reached = led_to(one)
                for other in rows:
                    if sum(one) != sum(other):
                        self.unlike_wholes(one, other)
                    elif tuple(other) in reached:
                        self.led(one, other)
                    else:
                        self.topped(one, other)

    def test_small_rows_in_every_order(self):
        for one in itertools.product(range(-1, 3), repeat=3):
            for other in itertools.product(range(-1, 3), repeat=3):
                self.held(list(one), list(other))

    def test_the_arguments_bear_their_names(self):
        self.assertIs(type(compared(other=[2, 2], one=[4, 0])), Gifts)
        self.assertIs(type(compared(other=[4, 0], one=[2, 2])), Top)

    def test_rows_as_they_were_and_gifts_that_are_new(self):
        one, other = [6, 0, 3, 0], [3, 2, 2, 2]
        answer = compared(one, other)
        kept = list(answer.gifts)
        answer.gifts.append((0, 1, 5))
        answer.gifts[0] = None
        self.assertEqual((one, other), ([6, 0, 3, 0], [3, 2, 2, 2]))
        self.assertEqual(compared(one, other).gifts, kept)
        self.assertIsNot(compared(one, other).gifts, compared(one, other).gifts)
        empty = compared(one, one)
        empty.gifts.append((0, 1, 1))
        self.assertEqual(compared(one, one).gifts, [])
        self.assertEqual(compared([5], [5]).gifts, [])


class UnderBoth(Pairs):
    def under_both(self, one, other):
        kept = [list(one), list(other)]
        row = under(one, other)
        self.assertIs(type(row), list)
        self.assertEqual([type(share) for share in row], [int] * len(one))
        self.assertEqual(row, sorted(row, reverse=True))
        self.assertEqual(len(row), len(one))
        self.assertEqual(sum(row), sum(one))
        self.assertEqual(top_sums(row), [min(pair) for pair in zip(top_sums(one), top_sums(other))])
        self.assertIsNot(row, one)
        self.assertIsNot(row, other)
        self.assertEqual([one, other], kept)
        return row

    def test_told(self):
        self.assertEqual(under([5], [5]), [5])
        self.assertEqual(under([4, 0], [3, 1]), [3, 1])
        self.assertEqual(under([0, 4], [2, 2]), [2, 2])
        self.assertEqual(under([1, 4, 1], [0, 3, 3]), [3, 2, 1])
        self.assertEqual(under([5, 5, 5, 1], [6, 4, 3, 3]), [5, 5, 3, 3])
        self.assertEqual(under([9, 0, 0, -9], [8, 8, -8, -8]), [8, 1, -1, -8])
        self.assertEqual(under([-1, -4, -1], [0, -3, -3]), [-1, -2, -3])
        self.assertEqual(under([BOUND, -BOUND], [-BOUND, BOUND]), [BOUND, -BOUND])
        self.assertEqual(under([BOUND, -BOUND], [0, 0]), [0, 0])

    def test_a_row_and_itself(self):
        for row in ROWS:
            self.assertEqual(under(row, row), sorted(row, reverse=True))
            self.assertEqual(under(row, list(reversed(row))), sorted(row, reverse=True))

    def test_a_row_and_its_evenest(self):
        for row in ROWS:
            self.assertEqual(under(row, evenest(row)), evenest(row))
            self.assertEqual(under(evenest(row), row), evenest(row))

    def test_drawn_pairs(self):
        for one, other in drawn_pairs():
            if sum(one) == sum(other):
                row = self.under_both(one, other)
                self.assertEqual(self.under_both(other, one), row)
                self.led(one, row)
                self.led(other, row)
                self.led(row, evenest(one))

    def test_if_gifts_lead_it_is_the_other_one(self):
        for one, other in drawn_pairs():
            if sum(one) == sum(other):
                leads = type(compared(one, other)) is Gifts
                self.assertEqual(leads, under(one, other) == sorted(other, reverse=True))

    def test_all_small_rows_against_all_gifts_tried(self):
        for count, least, most in ((1, -2, 2), (2, -3, 4), (3, -2, 4), (4, -1, 3), (5, 0, 3)):
            rows = [(row, led_to(row)) for row in all_rows(count, least, most)]
            for (one, first), (other, second) in itertools.product(rows, repeat=2):
                if sum(one) == sum(other):
                    row = self.under_both(one, other)
                    self.assertEqual(led_to(row), first & second)

    def test_the_arguments_bear_their_names(self):
        self.assertEqual(under(other=[2, 2], one=[4, 0]), [2, 2])

    def test_rows_that_are_new(self):
        one, other = [1, 4, 1], [0, 3, 3]
        for first, second in ((one, other), (one, one), ([2, 1], [2, 1]), ([7], [7])):
            row = under(first, second)
            kept = list(row)
            row.append(None)
            self.assertEqual(under(first, second), kept)
        self.assertEqual((one, other), ([1, 4, 1], [0, 3, 3]))


class Evenness(Pairs):
    def test_fair_gifts_lead_to_the_evenest_row(self):
        for row in ROWS + [one for one, other in drawn_pairs()]:
            self.led(row, evenest(row))
            if sorted(row) != sorted(evenest(row)):
                self.topped(evenest(row), row)

    def test_and_from_each_row_of_that_whole(self):
        for one, other in drawn_pairs():
            if sum(one) == sum(other):
                self.assertEqual(evenest(one), evenest(other))
                self.led(other, evenest(one))

    def test_gifts_lead_just_if_the_one_has_no_less_above_each_mark(self):
        for pair in drawn_pairs():
            for one, other in (pair, pair[::-1]):
                if sum(one) == sum(other) and len(one) <= 50:
                    # Between two shares what is above changes evenly, so the shares are marks enough.
                    marks = set(one + other)
                    no_less = all(above(one, mark) >= above(other, mark) for mark in marks)
                    no_more = all(low <= high for low, high in zip(rising_sums(one), rising_sums(other)))
                    self.assertEqual(type(compared(one, other)) is Gifts, no_less)
                    self.assertEqual(type(compared(one, other)) is Gifts, no_more)


class LongRows(Pairs):
    def test_as_many_shares_as_one_likes(self):
        draw = random.Random(21)
        many = 100000
        one = drawn_row(draw, many, -BOUND, BOUND)
        other = evened(draw, one, many)
        self.held(one, other)
        self.held(other, one)
        self.held(one, drawn_like(draw, one, -BOUND, BOUND))
        self.unlike_wholes(one, [0] * many if sum(one) else [1] * many)
        self.led(one, under(one, other))
        self.led(other, under(one, other))

    def test_one_giver_and_one_taker_for_all(self):
        many = 100000
        level = [1] * many
        self.led([many] + [0] * (many - 1), level)
        self.led([0] * (many - 1) + [many], level)
        self.led([2] * (many - 1) + [2 - many], level)
        self.led([2 - many] + [2] * (many - 1), level)
        self.assertEqual(under([many] + [0] * (many - 1), level), level)

    def test_where_only_the_last_count_speaks_against_it(self):
        for many in (4, 5, 50000):
            one, other = [many - 1] + [1] * (many - 1), [2] * (many - 1) + [0]
            self.assertEqual(self.topped(one, other), many - 1)
            self.assertEqual(self.topped(one[::-1], other[::-1]), many - 1)
            self.topped(other, one)


if __name__ == "__main__":
    unittest.main()
