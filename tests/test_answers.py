import itertools
import unittest

from evenhand.answers import Answer, Gifts, Top, Wholes
from evenhand.rows import above, evenest, rising_sums
from samples import BOUND


class Told(unittest.TestCase):
    def shown(self, answer, one, other):
        self.asked(True, answer, one, other)

    def not_shown(self, answer, one, other):
        self.asked(False, answer, one, other)

    def asked(self, expected, answer, one, other):
        kept = [list(one), list(other)]
        fields = {name: repr(value) for name, value in vars(answer).items()}
        self.assertIs(answer.shows(one, other), expected, (fields, one, other))
        self.assertEqual([one, other], kept)
        self.assertEqual({name: repr(value) for name, value in vars(answer).items()}, fields)


class Classes(unittest.TestCase):
    def test_each_stands_straight_under_answer(self):
        for kind in (Gifts, Top, Wholes):
            self.assertEqual(kind.__bases__, (Answer,))

    def test_fields_are_set_when_made(self):
        self.assertEqual(Gifts([(0, 1, 2)]).gifts, [(0, 1, 2)])
        self.assertEqual(Gifts([]).gifts, [])
        self.assertEqual(Top(3).many, 3)
        self.assertEqual(Wholes(4, -5).one, 4)
        self.assertEqual(Wholes(4, -5).other, -5)

    def test_arguments_bear_their_names(self):
        self.assertEqual(Gifts(gifts=[(0, 1, 2)]).gifts, [(0, 1, 2)])
        self.assertEqual(Top(many=3).many, 3)
        wholes = Wholes(other=1, one=2)
        self.assertEqual((wholes.one, wholes.other), (2, 1))
        self.assertIs(wholes.shows(other=[1, 0], one=[0, 2]), True)
        self.assertIs(Gifts(gifts=[(0, 1, 1)]).shows(other=[1, 1], one=[2, 0]), True)
        self.assertIs(Top(many=1).shows(other=[2, 0], one=[1, 1]), True)

    def test_any_whole_numbers_are_taken_as_fields(self):
        for number in (0, -1, 10 ** 30, -10 ** 30):
            self.assertEqual(Top(number).many, number)
            self.assertEqual(Wholes(number, number).one, number)
            self.assertEqual(Gifts([(number, number, number)]).gifts, [(number, number, number)])


class GiftsShow(Told):
    def test_the_list_is_copied(self):
        handed = [(0, 1, 2)]
        answer = Gifts(handed)
        self.assertIs(type(answer.gifts), list)
        self.assertIsNot(answer.gifts, handed)
        handed.append((1, 0, 9))
        handed[0] = (5, 5, 5)
        self.assertEqual(answer.gifts, [(0, 1, 2)])
        self.shown(answer, [4, 0], [2, 2])
        answer.gifts.append((1, 0, 9))
        self.assertEqual(handed, [(5, 5, 5), (1, 0, 9)])

    def test_two_answers_share_no_list(self):
        handed = []
        first, second = Gifts(handed), Gifts(handed)
        first.gifts.append((0, 1, 1))
        self.assertEqual(second.gifts, [])
        self.assertEqual(handed, [])

    def test_no_gifts(self):
        self.shown(Gifts([]), [5], [5])
        self.shown(Gifts([]), [1, 2, 3], [1, 2, 3])
        self.shown(Gifts([]), [1, 2, 3], [3, 1, 2])
        self.shown(Gifts([]), [-BOUND, BOUND], [BOUND, -BOUND])
        self.not_shown(Gifts([]), [5], [4])
        self.not_shown(Gifts([]), [2, 2], [3, 1])
        self.not_shown(Gifts([]), [1, 1, 2], [1, 2, 2])
        self.not_shown(Gifts([]), [1, 1, 3, 3], [1, 3, 1, 1])

    def test_fair_gifts_that_lead_there(self):
        self.shown(Gifts([(0, 1, 1)]), [4, 0], [3, 1])
        self.shown(Gifts([(0, 1, 1)]), [4, 0], [1, 3])
        self.shown(Gifts([(0, 1, 2)]), [4, 0], [2, 2])
        self.shown(Gifts([(1, 0, 2)]), [0, 4], [2, 2])
        self.shown(Gifts([(1, 0, 2)]), [-4, 0], [-2, -2])
        self.shown(Gifts([(0, 1, BOUND)]), [BOUND, -BOUND], [0, 0])
        self.shown(Gifts([(0, 1, 3), (1, 2, 1)]), [6, 0, 0], [1, 2, 3])
        self.shown(Gifts([(3, 0, 1), (3, 1, 1), (3, 2, 1)]), [0, 0, 0, 4], [1, 1, 1, 1])

    def test_gifts_that_lead_elsewhere(self):
        self.not_shown(Gifts([(0, 1, 1)]), [4, 0], [2, 2])
        self.not_shown(Gifts([(0, 1, 1)]), [4, 0], [4, 0])
        self.not_shown(Gifts([(0, 1, 1)]), [4, 0], [3, 2])
        self.not_shown(Gifts([(0, 1, 1)]), [6, 0, 0], [5, 0, 0])
        self.not_shown(Gifts([(0, 1, 2)]), [6, 0, 0], [3, 2, 1])

    def test_the_other_way_round(self):
        self.not_shown(Gifts([(0, 1, 1)]), [3, 1], [4, 0])
        self.not_shown(Gifts([(1, 0, 1)]), [3, 1], [4, 0])

    def test_unfair_gifts(self):
        self.not_shown(Gifts([(0, 1, 3)]), [4, 0], [1, 3])
        self.not_shown(Gifts([(0, 1, 3)]), [4, 0], [3, 1])
        self.not_shown(Gifts([(0, 1, 4)]), [4, 0], [4, 0])
        self.not_shown(Gifts([(0, 1, 1)]), [3, 2], [3, 2])
        self.not_shown(Gifts([(0, 1, 1)]), [1, 1], [0, 2])
        self.not_shown(Gifts([(1, 0, 1)]), [4, 0], [5, -1])

    def test_gifts_that_are_unfair_when_their_turn_comes(self):
        self.not_shown(Gifts([(1, 2, 1), (0, 1, 3)]), [6, 0, 0], [3, 2, 1])
        self.not_shown(Gifts([(0, 1, 2), (0, 1, 1)]), [4, 0, 0], [1, 3, 0])
        self.not_shown(Gifts([(0, 1, 1), (2, 1, 1)]), [4, 0, 2], [3, 2, 1])
        self.not_shown(Gifts([(0, 1, 3), (1, 0, 1)]), [4, 0, 9], [2, 2, 9])

    def test_as_many_gifts_as_shares_or_more(self):
        self.not_shown(Gifts([(0, 1, 1), (0, 1, 1)]), [4, 0], [2, 2])
        self.shown(Gifts([(0, 1, 1), (0, 1, 1)]), [4, 0, 7], [2, 2, 7])
        self.not_shown(Gifts([(0, 1, 1)] * 3), [6, 0, 7], [3, 3, 7])
        self.not_shown(Gifts([(0, 1, 1)] * 4), [8, 0, 7], [4, 4, 7])
        self.not_shown(Gifts([(0, 1, 1)]), [5], [5])

    def test_places_that_are_not_there(self):
        for place in (-1, -2, -3, 2, 3, BOUND, 10 ** 30, -10 ** 30):
            self.not_shown(Gifts([(0, place, 2)]), [4, 0], [2, 2])
            self.not_shown(Gifts([(place, 1, 2)]), [4, 0], [2, 2])
            self.not_shown(Gifts([(place, place, 1)]), [4, 0], [4, 0])
        self.not_shown(Gifts([(-2, 1, 2)]), [4, 0], [2, 2])
        self.not_shown(Gifts([(-3, -1, 2)]), [4, 1, 0], [2, 1, 2])

    def test_giver_and_taker_the_same(self):
        self.not_shown(Gifts([(0, 0, 1)]), [4, 0], [4, 0])
        self.not_shown(Gifts([(1, 1, 1)]), [4, 0], [4, 0])
        self.not_shown(Gifts([(0, 0, 1), (0, 1, 2)]), [4, 0, 9], [2, 2, 9])

    def test_amounts_of_0_or_below(self):
        self.not_shown(Gifts([(0, 1, 0)]), [4, 0], [4, 0])
        self.not_shown(Gifts([(1, 0, -1)]), [4, 0], [3, 1])
        self.not_shown(Gifts([(0, 1, -1)]), [4, 0], [5, -1])
        self.not_shown(Gifts([(1, 0, -2)]), [4, 0], [2, 2])
        self.not_shown(Gifts([(0, 1, 10 ** 30)]), [4, 0], [2, 2])

    def test_a_later_gift_that_is_none(self):
        self.not_shown(Gifts([(0, 1, 2), (0, 1, 0)]), [4, 0, 9], [2, 2, 9])
        self.not_shown(Gifts([(0, 1, 2), (0, 3, 1)]), [4, 0, 9], [2, 2, 9])
        self.not_shown(Gifts([(0, 1, 2), (2, 2, 1)]), [4, 0, 9], [2, 2, 9])

    def test_rows_of_other_counts(self):
        self.not_shown(Gifts([]), [1], [1, 0])
        self.not_shown(Gifts([]), [1, 0], [1])
        self.not_shown(Gifts([(0, 1, 2)]), [4, 0], [2, 2, 0])
        self.not_shown(Gifts([(0, 1, 2)]), [4, 0, 0], [2, 2])
        self.not_shown(Gifts([(0, 1, 2)]), [4], [2, 2])

    def test_by_the_field_as_it_stands_then(self):
        answer = Gifts([(0, 1, 1)])
        self.not_shown(answer, [4, 0], [2, 2])
        answer.gifts = [(0, 1, 2)]
        self.shown(answer, [4, 0], [2, 2])
        self.not_shown(answer, [4, 0], [3, 1])
        answer.gifts[0] = (0, 1, 1)
        self.shown(answer, [4, 0], [3, 1])
        answer.gifts.append((0, 1, 1))
        self.not_shown(answer, [4, 0], [2, 2])
        self.shown(answer, [4, 0, 5], [2, 2, 5])

    def test_asked_twice_it_tells_the_same(self):
        answer = Gifts([(0, 1, 3), (1, 2, 1)])
        for turn in range(3):
            self.shown(answer, [6, 0, 0], [3, 2, 1])
            self.not_shown(answer, [6, 0, 0], [2, 2, 2])


class TopShows(Told):
    def test_right_counts(self):
        self.shown(Top(1), [3, 1], [4, 0])
        self.shown(Top(1), [1, 3], [0, 4])
        self.shown(Top(1), [-2, -2], [-4, 0])
        self.shown(Top(2), [4, 1, 1], [3, 0, 3])
        self.shown(Top(2), [4, 1, 1, 0], [3, 3, 0, 0])
        self.shown(Top(3), [3, 3, 3, 3], [4, 4, 4, 0])
        self.shown(Top(1), [0, 0], [BOUND, -BOUND])

    def test_counts_for_which_the_other_one_has_no_more(self):
        self.not_shown(Top(1), [4, 1, 1], [3, 0, 3])
        self.not_shown(Top(1), [4, 1, 1, 0], [3, 3, 0, 0])
        self.not_shown(Top(3), [4, 1, 1, 0], [3, 3, 0, 0])
        self.not_shown(Top(1), [4, 0], [3, 1])
        self.not_shown(Top(1), [4, 0], [4, 0])
        self.not_shown(Top(1), [4, 0], [0, 4])
        self.not_shown(Top(1), [5], [5])

    def test_the_greatest_shares_count_and_not_the_first_or_least(self):
        self.not_shown(Top(1), [0, 4], [3, 1])
        self.shown(Top(1), [3, 1], [0, 4])
        self.not_shown(Top(1), [4, 0], [1, 3])
        self.not_shown(Top(1), [0, 2, 4], [1, 2, 3])

    def test_counts_below_1(self):
        for many in (0, -1, -2, -BOUND, -10 ** 30):
            self.not_shown(Top(many), [3, 1], [4, 0])
            self.not_shown(Top(many), [4, 1, 1], [3, 0, 3])
            self.not_shown(Top(many), [2, 2, 2], [4, 1, 1])

    def test_counts_of_all_and_beyond_the_shares(self):
        for many in (2, 3, 4, BOUND, 10 ** 30):
            self.not_shown(Top(many), [3, 1], [4, 0])
            self.not_shown(Top(many), [4, 0], [3, 1])
            self.not_shown(Top(many), [3, 1], [5, 0])

    def test_rows_of_different_wholes(self):
        self.not_shown(Top(1), [3, 1], [5, 0])
        self.not_shown(Top(1), [3, 1], [4, -1])
        self.not_shown(Top(1), [3], [4])
        self.not_shown(Top(2), [3, 1], [4, 1])

    def test_rows_of_other_counts(self):
        self.not_shown(Top(1), [3, 1], [4])
        self.not_shown(Top(1), [3, 1], [4, 0, 0])
        self.not_shown(Top(1), [3, 1, 0], [4, 0])
        self.not_shown(Top(2), [3], [4, -1])

    def test_by_the_field_as_it_stands_then(self):
        answer = Top(1)
        self.not_shown(answer, [4, 1, 1], [3, 0, 3])
        answer.many = 2
        self.shown(answer, [4, 1, 1], [3, 0, 3])
        answer.many = 0
        self.not_shown(answer, [4, 1, 1], [3, 0, 3])


class WholesShow(Told):
    def test_right_wholes(self):
        self.shown(Wholes(4, 5), [3, 1], [5, 0])
        self.shown(Wholes(5, 4), [5, 0], [3, 1])
        self.shown(Wholes(3, 4), [3], [4])
        self.shown(Wholes(-3, 0), [-1, -1, -1], [1, -1, 0])
        self.shown(Wholes(2 * BOUND, -2 * BOUND), [BOUND, BOUND], [-BOUND, -BOUND])

    def test_wholes_that_are_equal(self):
        self.not_shown(Wholes(4, 4), [3, 1], [4, 0])
        self.not_shown(Wholes(4, 4), [3, 1], [3, 1])
        self.not_shown(Wholes(0, 0), [0], [0])
        self.not_shown(Wholes(4, 5), [3, 1], [4, 0])
        self.not_shown(Wholes(5, 4), [3, 1], [4, 0])

    def test_wholes_that_are_not_those_of_the_rows(self):
        self.not_shown(Wholes(5, 4), [3, 1], [5, 0])
        self.not_shown(Wholes(4, 6), [3, 1], [5, 0])
        self.not_shown(Wholes(3, 5), [3, 1], [5, 0])
        self.not_shown(Wholes(4, 4), [3, 1], [5, 0])
        self.not_shown(Wholes(5, 5), [3, 1], [5, 0])
        self.not_shown(Wholes(0, 1), [3, 1], [5, 0])
        self.not_shown(Wholes(10 ** 30, -10 ** 30), [3, 1], [5, 0])

    def test_rows_of_other_counts(self):
        self.not_shown(Wholes(4, 5), [3, 1], [5])
        self.not_shown(Wholes(4, 5), [4], [5, 0])
        self.not_shown(Wholes(4, 5), [3, 1, 0], [5, 0])

    def test_by_the_fields_as_they_stand_then(self):
        answer = Wholes(1, 2)
        self.not_shown(answer, [3, 1], [5, 0])
        answer.one = 4
        self.not_shown(answer, [3, 1], [5, 0])
        answer.other = 5
        self.shown(answer, [3, 1], [5, 0])
        answer.one = 5
        self.not_shown(answer, [3, 1], [5, 0])


def gift_lists(count, greatest):
    """Every list of fewer gifts than so many shares, with amounts up to the greatest."""
    places = range(count)
    gifts = [(giver, taker, amount) for giver in places for taker in places if giver != taker
             for amount in range(1, greatest + 1)]
    return [list(chosen) for many in range(count) for chosen in itertools.product(gifts, repeat=many)]


def small_rows(count, least, most):
    return [list(row) for row in itertools.combinations_with_replacement(range(least, most + 1), count)]


class SmallRows(unittest.TestCase):
    """What the document says of all rows, asked of all small ones."""

    def kinds_that_show(self, one, other, lists):
        tops = [Top(many) for many in range(-1, len(one) + 2)]
        sums = range(-8, 9)
        wholes = [Wholes(first, second) for first in sums for second in sums]
        kinds = []
        if any(Gifts(gifts).shows(one, other) for gifts in lists):
            kinds.append("gifts")
        if any(top.shows(one, other) for top in tops):
            kinds.append("top")
        if any(whole.shows(one, other) for whole in wholes):
            kinds.append("wholes")
        return kinds

    def test_one_kind_of_answer_for_each_two_rows_and_never_two(self):
        for count in (1, 2, 3):
            lists = gift_lists(count, 3)
            rows = small_rows(count, -1, 2)
            for one, other in itertools.product(rows, repeat=2):
                kinds = self.kinds_that_show(one, other, lists)
                with self.subTest(one=one, other=other):
                    self.assertEqual(len(kinds), 1, kinds)
                    self.assertEqual(kinds == ["wholes"], sum(one) != sum(other))

    def test_fair_gifts_lead_just_if_the_one_has_no_less_above_each_mark(self):
        for count in (1, 2, 3):
            lists = gift_lists(count, 4)
            rows = small_rows(count, -1, 3)
            for one, other in itertools.product(rows, repeat=2):
                if sum(one) != sum(other):
                    continue
                led = any(Gifts(gifts).shows(one, other) for gifts in lists)
                no_less = all(above(one, mark) >= above(other, mark) for mark in range(-3, 6))
                no_more = all(low <= high for low, high in zip(rising_sums(one), rising_sums(other)))
                with self.subTest(one=one, other=other):
                    self.assertEqual(led, no_less)
                    self.assertEqual(led, no_more)

    def test_fair_gifts_lead_to_the_evenest_row(self):
        for count in (1, 2, 3):
            lists = gift_lists(count, 4)
            for row in small_rows(count, -2, 4):
                with self.subTest(row=row):
                    self.assertTrue(any(Gifts(gifts).shows(row, evenest(row)) for gifts in lists))


class LongRows(Told):
    def test_as_many_shares_as_one_likes(self):
        many = 50000
        steep = [many - 1] + [0] * (many - 1)
        level = [0] + [1] * (many - 1)
        gifts = [(0, place, 1) for place in range(2, many)]
        self.assertIs(Gifts(gifts).shows(steep, level), True)
        self.assertIs(Gifts(gifts[1:]).shows(steep, level), False)
        self.assertIs(Top(many // 2).shows(level, steep), True)
        self.assertIs(Top(many - 1).shows(level, steep), False)
        self.assertIs(Wholes(many - 1, 0).shows(steep, [0] * many), True)

    def test_shares_somewhat_beyond_the_bounds_are_no_refusal(self):
        one, other = [BOUND + 1, 0], [BOUND, 1]
        for answer in (Gifts([(0, 1, 1)]), Gifts([]), Top(1), Wholes(BOUND + 1, BOUND)):
            self.assertIn(answer.shows(one, other), (True, False))
            self.assertIn(answer.shows(other, one), (True, False))


if __name__ == "__main__":
    unittest.main()
