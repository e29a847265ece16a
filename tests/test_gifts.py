"""Gifts [6], lists of gifts [7], what they leave as it was [8], and their shares [9]."""

import inspect
import itertools
import unittest

from drawn import FAR, after, drawn_gifts, drawn_row, draws, small_rows
from pursewise.errors import Gap, NoGift, NoText, PurseError, Unlike
from pursewise.gifts import done, fits, shares, walked
from pursewise.rows import spread, tops

LONG = 10 ** 300 - 1


class Interface(unittest.TestCase):
    def test_arguments(self):
        for asked, names in [
            (fits, ["row", "gift"]),
            (done, ["row", "gift"]),
            (walked, ["row", "gifts"]),
            (shares, ["row", "gifts"]),
        ]:
            with self.subTest(asked=asked.__name__):
                self.assertEqual(list(inspect.signature(asked).parameters), names)

    def test_kinds(self):
        self.assertIs(fits([2, 1], (0, 1, 1)), True)
        self.assertIs(fits([2, 1], (0, 1, 2)), False)
        self.assertIs(fits([2, 1], (0, 1, 0)), False)
        self.assertIs(fits([2, 1], (0, 2, 1)), False)
        self.assertIs(fits([], (0, 1, 1)), False)
        self.assertIs(type(done([2, 1], (0, 1, 1))), list)
        self.assertIs(type(walked([2, 1], [(0, 1, 1)])), list)
        told = shares([2, 1], [(0, 1, 1)])
        self.assertIs(type(told), tuple)
        self.assertEqual(len(told), 2)
        self.assertIs(type(told[0]), list)
        self.assertEqual([type(parts) for parts in told[0]], [list, list])
        self.assertEqual({type(part) for parts in told[0] for part in parts}, {int})
        self.assertIs(type(told[1]), int)


class OneGift(unittest.TestCase):
    def check_fits(self, row, gift, behind):
        with self.subTest(row=row, gift=gift):
            self.assertIs(fits(row, gift), True)
            self.assertEqual(done(row, gift), behind)

    def check_refused(self, row, gift):
        with self.subTest(row=row, gift=gift):
            self.assertIs(fits(row, gift), False)
            with self.assertRaises(NoGift):
                done(row, gift)

    def test_fits_and_is_done(self):
        self.check_fits([5, 1], (0, 1, 1), [4, 2])
        self.check_fits([1, 5], (1, 0, 3), [4, 2])
        self.check_fits([7, 0, 3], (0, 2, 2), [5, 0, 5])
        self.check_fits([7, 0, 3], (2, 1, 1), [7, 1, 2])
        self.check_fits([-1, -9], (0, 1, 5), [-6, -4])
        self.check_fits([3, -3, 3], (2, 1, 4), [3, 1, -1])

    def test_the_whole_difference_fits_and_one_more_does_not(self):
        for row, giver, taker in [([5, 1], 0, 1), ([0, 1], 1, 0), ([4, -4, 0], 0, 1), ([-2, -7], 0, 1)]:
            differ = row[giver] - row[taker]
            swapped = list(row)
            swapped[giver], swapped[taker] = row[taker], row[giver]
            self.check_fits(row, (giver, taker, differ), swapped)
            self.check_refused(row, (giver, taker, differ + 1))

    def test_amounts_of_nought_and_below(self):
        for amount in (0, -1, -4, -LONG):
            for giver, taker in [(0, 1), (1, 0), (0, 0), (1, 1)]:
                self.check_refused([5, 1], (giver, taker, amount))

    def test_from_the_emptier_to_the_fuller(self):
        for amount in (1, 4, 5):
            self.check_refused([1, 5], (0, 1, amount))

    def test_giver_and_taker_alike(self):
        for place in range(3):
            for amount in (0, 1, 5):
                self.check_refused([5, 0, -5], (place, place, amount))

    def test_places_outside_the_row(self):
        # Each would fit if Python's counting from the end were taken for a place.
        self.check_refused([5, 1], (-2, 1, 1))
        self.check_refused([5, 1], (0, -1, 1))
        self.check_refused([5, 1], (-2, -1, 1))
        for place in (-LONG, -3, -1, 2, 3, 60, LONG):
            for row in ([9, 0], [0, 9]):
                for inside in (0, 1):
                    self.check_refused(row, (place, inside, 1))
                    self.check_refused(row, (inside, place, 1))
            self.check_refused([9, 0], (place, place, 1))

    def test_the_last_place_lies_in_the_row(self):
        self.check_fits([0, 0, 9], (2, 0, 1), [1, 0, 8])
        self.check_fits([9, 0, 0], (0, 2, 1), [8, 0, 1])
        self.check_fits([0] * 59 + [2], (59, 0, 1), [1] + [0] * 58 + [1])

    def test_purses_that_hold_alike(self):
        for held in (0, 3, -3, FAR, -FAR):
            for amount in (0, 1, 3):
                self.check_refused([held, held], (0, 1, amount))

    def test_few_purses(self):
        for gift in [(0, 0, 1), (0, 1, 1), (-1, 0, 1), (0, -1, 1), (0, 0, 0)]:
            self.check_refused([], gift)
            self.check_refused([4], gift)

    def test_the_far_ends(self):
        self.check_fits([FAR, -FAR], (0, 1, 2 * FAR), [-FAR, FAR])
        self.check_fits([FAR, -FAR], (0, 1, FAR), [0, 0])
        self.check_fits([FAR, FAR - 1], (0, 1, 1), [FAR - 1, FAR])
        self.check_refused([FAR, -FAR], (0, 1, 2 * FAR + 1))
        self.check_refused([FAR, FAR - 1], (0, 1, 2))

    def test_numbers_of_300_figures(self):
        self.assertEqual(len(str(LONG)), 300)
        self.check_refused([FAR, -FAR], (0, 1, LONG))
        self.check_refused([FAR, -FAR], (LONG, 1, 1))
        self.check_refused([FAR, -FAR], (0, LONG, 1))
        self.check_refused([FAR, -FAR], (LONG, LONG, LONG))
        self.check_refused([FAR, -FAR], (-LONG, -LONG, -LONG))

    def test_somewhat_beyond_the_bounds_is_not_refused(self):
        self.check_fits([FAR + 5] + [0] * 60, (0, 60, FAR + 5), [0] * 60 + [FAR + 5])

    def test_all_small_ones(self):
        for row in small_rows(3, -1, 2):
            for giver, taker, amount in itertools.product(range(-3, 5), range(-3, 5), range(-1, 5)):
                gift = (giver, taker, amount)
                places = range(len(row))
                asked = amount > 0 and giver in places and taker in places and row[giver] >= row[taker] + amount
                self.assertIs(fits(row, gift), asked, (row, gift))
                if asked:
                    self.assertEqual(done(row, gift), after(row, gift), (row, gift))
                else:
                    self.assertRaises(NoGift, done, row, gift)

    def test_the_refusal_is_none_of_the_others(self):
        for asked, given in [(done, (0, 1, 1)), (walked, [(0, 1, 1)]), (shares, [(0, 1, 1)])]:
            with self.subTest(asked=asked.__name__):
                with self.assertRaises(PurseError) as caught:
                    asked([1, 1], given)
                self.assertIsInstance(caught.exception, ValueError)
                self.assertIsInstance(caught.exception, NoGift)
                self.assertNotIsInstance(caught.exception, (Unlike, Gap, NoText))


class GiftsOneByOne(unittest.TestCase):
    def test_no_gifts(self):
        for row in ([], [4], [1, 5, -2], [FAR, -FAR] * 30):
            with self.subTest(row=row):
                told = walked(row, [])
                self.assertEqual(told, row)
                self.assertIsNot(told, row)

    def test_told(self):
        self.assertEqual(walked([9, 0, 3], [(0, 1, 4)]), [5, 4, 3])
        self.assertEqual(walked([9, 0, 3], [(0, 1, 4), (0, 2, 1)]), [4, 4, 4])
        self.assertEqual(walked([2, 1], [(0, 1, 1), (1, 0, 1), (0, 1, 1)]), [1, 2])

    def test_a_gift_that_fits_only_behind_another(self):
        self.assertRaises(NoGift, walked, [9, 0, 5], [(1, 2, 1)])
        self.assertEqual(walked([9, 0, 5], [(0, 1, 9), (1, 2, 1)]), [0, 8, 6])
        self.assertRaises(NoGift, walked, [9, 0, 5], [(1, 2, 1), (0, 1, 9)])

    def test_a_gift_that_fits_only_ahead_of_another(self):
        self.assertEqual(walked([9, 0], [(0, 1, 5)]), [4, 5])
        self.assertRaises(NoGift, walked, [9, 0], [(0, 1, 5), (0, 1, 5)])

    def test_one_that_does_not_fit_wherever_it_stands(self):
        draw = draws(7)
        row = drawn_row(draw, 13)
        gifts = drawn_gifts(draw, row, 200)[0]
        self.assertEqual(len(gifts), 200)
        for place in (0, 1, 100, 198, 199, 200):
            for wrong in [(0, 0, 1), (0, 1, 0), (13, 0, 1), (0, -1, 1), (0, 1, LONG)]:
                with self.subTest(place=place, wrong=wrong):
                    self.assertRaises(NoGift, walked, row, gifts[:place] + [wrong] + gifts[place:])

    def test_row_without_purses(self):
        self.assertRaises(NoGift, walked, [], [(0, 1, 1)])
        self.assertRaises(NoGift, walked, [], [(0, 0, 0)])

    def test_many_gifts(self):
        for seed, purses in itertools.product(range(4), (2, 13, 60)):
            with self.subTest(seed=seed, purses=purses):
                draw = draws(seed)
                row = drawn_row(draw, purses)
                gifts, rows = drawn_gifts(draw, row, 200)
                self.assertEqual(walked(row, gifts), rows[-1])
                for count in range(0, len(gifts), 17):
                    self.assertEqual(walked(row, gifts[:count]), rows[count])

    def test_somewhat_beyond_the_bounds_is_not_refused(self):
        self.assertEqual(walked([1, 0], [(0, 1, 1), (1, 0, 1)] * 101), [1, 0])


class WhatGiftsLeave(unittest.TestCase):
    def check_step(self, row, gift, behind):
        giver, taker, amount = gift
        differ = row[giver] - row[taker]
        self.assertEqual(sum(behind), sum(row))
        self.assertEqual([k for k, (old, new) in enumerate(zip(tops(row), tops(behind))) if new > old], [])
        self.assertEqual(spread(row) - spread(behind), 2 * len(row) * amount * (differ - amount))

    def test_from_each_row_to_the_next(self):
        for seed, purses, bound in itertools.product(range(3), (2, 3, 13, 60), (2, 50, FAR)):
            with self.subTest(seed=seed, purses=purses, bound=bound):
                draw = draws(seed)
                row = drawn_row(draw, purses, bound)
                for gift in drawn_gifts(draw, row, 60)[0]:
                    behind = done(row, gift)
                    self.check_step(row, gift, behind)
                    row = behind

    def test_all_small_ones(self):
        for row in small_rows(4, -1, 2):
            for giver, taker in itertools.permutations(range(len(row)), 2):
                for amount in range(1, row[giver] - row[taker] + 1):
                    gift = (giver, taker, amount)
                    self.check_step(row, gift, done(row, gift))


def times(left, right):
    columns = list(zip(*right))
    return [[sum(one * other for one, other in zip(parts, column)) for column in columns] for parts in left]


def reckoned_shares(row, gifts):
    """The table as a product of whole tables, one for each gift."""
    places = range(len(row))
    table, scale = [[int(k == column) for column in places] for k in places], 1
    for giver, taker, amount in gifts:
        differ = row[giver] - row[taker]
        step = [[differ * (k == column) for column in places] for k in places]
        step[giver][giver] = step[taker][taker] = differ - amount
        step[giver][taker] = step[taker][giver] = amount
        table, scale = times(step, table), scale * differ
        row = after(row, (giver, taker, amount))
    return table, scale


class Shares(unittest.TestCase):
    def check_shares(self, row, gifts):
        table, scale = shares(row, gifts)
        # Not assertEqual: to show how tables of such long numbers differ takes it minutes.
        self.assertTrue((table, scale) == reckoned_shares(row, gifts), (row, gifts))
        self.assertEqual([len(parts) for parts in table], [len(row)] * len(row))
        self.assertEqual([sum(parts) for parts in table], [scale] * len(row))
        self.assertEqual([sum(column) for column in zip(*table)], [scale] * len(row))
        self.assertEqual([part for parts in table for part in parts if part < 0], [])
        first = [sum(part * held for part, held in zip(parts, row)) for parts in table]
        self.assertEqual(first, [scale * held for held in walked(row, gifts)])

    def test_no_gifts(self):
        self.assertEqual(shares([4], []), ([[1]], 1))
        self.assertEqual(shares([4, 9, 4], []), ([[1, 0, 0], [0, 1, 0], [0, 0, 1]], 1))
        table, scale = shares([FAR, -FAR] * 12, [])
        self.assertEqual(table, [[int(k == column) for column in range(24)] for k in range(24)])
        self.assertEqual(scale, 1)

    def test_row_without_purses(self):
        self.assertEqual(shares([], []), ([], 1))
        self.assertRaises(NoGift, shares, [], [(0, 1, 1)])

    def test_one_gift_of_less_than_the_difference(self):
        self.assertEqual(shares([7, 2], [(0, 1, 1)]), ([[4, 1], [1, 4]], 5))
        self.assertEqual(shares([2, 0, 7], [(2, 0, 2)]), ([[3, 0, 2], [0, 5, 0], [2, 0, 3]], 5))

    def test_one_gift_of_the_whole_difference(self):
        self.assertEqual(shares([7, 2], [(0, 1, 5)]), ([[0, 5], [5, 0]], 5))
        self.assertEqual(shares([2, 0, 7], [(2, 0, 5)]), ([[0, 0, 5], [0, 5, 0], [5, 0, 0]], 5))

    def test_two_gifts(self):
        # Behind the first the row is [5, 4, 3], so the second one's difference is 2.
        told = ([[5, 4, 9], [8, 10, 0], [5, 4, 9]], 18)
        self.assertEqual(shares([9, 0, 3], [(0, 1, 4), (0, 2, 1)]), told)

    def test_the_same_gift_twice_over(self):
        # Differences 8 and 4: the second time as the row then is, not as it was at first.
        self.assertEqual(shares([8, 0], [(0, 1, 2), (0, 1, 1)]), ([[20, 12], [12, 20]], 32))

    def test_many_gifts(self):
        for seed, purses, bound in itertools.product(range(3), (2, 3, 7, 13), (3, 100, FAR)):
            with self.subTest(seed=seed, purses=purses, bound=bound):
                draw = draws(seed)
                row = drawn_row(draw, purses, bound)
                self.check_shares(row, drawn_gifts(draw, row, 12)[0])

    def test_24_gifts_upon_24_purses(self):
        for seed in range(3):
            with self.subTest(seed=seed):
                draw = draws(seed)
                row = drawn_row(draw, 24)
                gifts = drawn_gifts(draw, row, 24)[0]
                self.assertEqual(len(gifts), 24)
                self.check_shares(row, gifts)

    def test_the_far_ends(self):
        self.check_shares([FAR, -FAR] * 12, [(0, 1, 2 * FAR), (1, 0, 2 * FAR)] * 12)
        self.check_shares([FAR, -FAR], [(0, 1, FAR)])
        self.check_shares([FAR, -FAR], [(0, 1, FAR - 1), (0, 1, 1)])

    def test_one_that_does_not_fit_wherever_it_stands(self):
        draw = draws(5)
        row = drawn_row(draw, 24)
        gifts = drawn_gifts(draw, row, 23)[0]
        for place in (0, 1, 12, 22, 23):
            for wrong in [(0, 0, 1), (0, 1, 0), (24, 0, 1), (0, 24, 1), (-1, 0, 1), (0, -1, 1), (0, 1, LONG)]:
                with self.subTest(place=place, wrong=wrong):
                    self.assertRaises(NoGift, shares, row, gifts[:place] + [wrong] + gifts[place:])

    def test_a_gift_that_fits_only_behind_another(self):
        self.assertRaises(NoGift, shares, [9, 0, 5], [(1, 2, 1)])
        self.check_shares([9, 0, 5], [(0, 1, 9), (1, 2, 1)])

    def test_a_gift_that_fits_only_ahead_of_another(self):
        self.assertRaises(NoGift, shares, [9, 0], [(0, 1, 5), (0, 1, 5)])

    def test_somewhat_beyond_the_bounds_is_not_refused(self):
        draw = draws(6)
        row = drawn_row(draw, 26)
        self.check_shares(row, drawn_gifts(draw, row, 26)[0])


if __name__ == "__main__":
    unittest.main()
