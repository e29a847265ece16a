"""Unlike rows [10], gap [11], dues [12], ways [13], and what follows of them [14]."""

import heapq
import inspect
import itertools
import unittest

from drawn import FAR, after, drawn_gifts, drawn_row, draws, small_rows
from pursewise.errors import Gap, NoGift, NoText, PurseError, Unlike
from pursewise.rows import level
from pursewise.ways import dues, gap, way

ASKED = [gap, dues, way]


def fullest_first(row):
    return sorted(row, reverse=True)


def like_pairs(most_purses, least, most):
    """All pairs of small rows with as many purses that hold the same together, the first ones in order."""
    kinds = {}
    for row in small_rows(most_purses, least, most):
        kinds.setdefault((len(row), sum(row)), []).append(row)
    for rows in kinds.values():
        for one, other in itertools.product(rows, repeat=2):
            if one == sorted(one):
                yield one, other


def reckoned_gap(one, other):
    for k in range(len(one) + 1):
        most = [max(map(sum, itertools.combinations(row, k))) for row in (one, other)]
        if most[1] > most[0]:
            return k
    return None


def reckoned_dues(one, other):
    # Both rows hold the same together, so what differs, counted both ways about, is twice the dues.
    return sum(abs(held - wanted) for held, wanted in zip(sorted(one), sorted(other))) // 2


class WayCase(unittest.TestCase):
    def check_way(self, one, other):
        gifts = way(one, other)
        self.assertIs(type(gifts), list)
        row = list(one)
        for gift in gifts:
            self.assertIs(type(gift), tuple)
            self.assertEqual([type(number) for number in gift], [int, int, int])
            giver, taker, amount = gift
            self.assertIn(giver, range(len(row)))
            self.assertIn(taker, range(len(row)))
            self.assertGreaterEqual(amount, 1)
            self.assertGreaterEqual(row[giver] - row[taker], amount)
            row = after(row, gift)
        self.assertEqual(sorted(row), sorted(other))
        self.assertLessEqual(len(gifts), max(0, len(one) - 1))
        self.assertEqual(sum(gift[2] for gift in gifts), reckoned_dues(one, other))
        self.assertEqual(dues(one, other), reckoned_dues(one, other))
        return gifts

    def check_gap(self, one, other, at):
        self.assertEqual(gap(one, other), at)
        with self.assertRaises(Gap) as caught:
            way(one, other)
        self.assertIs(type(caught.exception.at), int)
        self.assertEqual(caught.exception.at, at)


class Interface(unittest.TestCase):
    def test_arguments(self):
        for asked in ASKED:
            with self.subTest(asked=asked.__name__):
                self.assertEqual(list(inspect.signature(asked).parameters), ["one", "other"])

    def test_kinds(self):
        self.assertIsNone(gap([2, 0], [1, 1]))
        self.assertIs(type(gap([1, 1], [2, 0])), int)
        self.assertIs(type(dues([2, 0], [1, 1])), int)
        self.assertIs(type(dues([], [])), int)
        self.assertEqual(way([], []), [])


class UnlikeRows(unittest.TestCase):
    def check_unlike(self, one, other):
        for asked, rows in itertools.product(ASKED, [(one, other), (other, one)]):
            with self.subTest(asked=asked.__name__, rows=rows):
                with self.assertRaises(PurseError) as caught:
                    asked(*rows)
                self.assertIsInstance(caught.exception, Unlike)
                self.assertIsInstance(caught.exception, ValueError)
                self.assertNotIsInstance(caught.exception, (NoGift, Gap, NoText))

    def test_not_as_many_purses(self):
        self.check_unlike([], [0])
        self.check_unlike([3], [3, 0])
        self.check_unlike([3, 0, 0], [3, 0])
        self.check_unlike([5, -5], [])
        self.check_unlike([1] * 60, [1] * 59 + [1, 0])

    def test_not_the_same_sum(self):
        self.check_unlike([0], [1])
        self.check_unlike([3, 4], [4, 4])
        self.check_unlike([1, -1], [-1, -1])
        self.check_unlike([FAR, FAR], [FAR, FAR - 1])
        self.check_unlike([-FAR] * 60, [-FAR] * 59 + [1 - FAR])

    def test_both(self):
        self.check_unlike([], [1])
        self.check_unlike([2, 2], [2, 2, 2])
        self.check_unlike([FAR], [-FAR, -FAR])

    def test_ahead_of_a_gap(self):
        # Read place by place, the fuller row would show a gap at once.
        self.check_unlike([1, 1], [9, -8])
        self.check_unlike([1, 1], [5, -3, 0])
        self.check_unlike([0, 0, 0], [9, 0, 0])


class GapTold(WayCase):
    def test_none(self):
        for one, other in [
            ([], []),
            ([4], [4]),
            ([3, 1], [2, 2]),
            ([3, 1], [1, 3]),
            ([1, 5, 3], [3, 1, 5]),
            ([9, 0, 0], [3, 3, 3]),
            ([-1, -9], [-5, -5]),
            ([FAR, -FAR] * 30, [0] * 60),
            ([FAR, -FAR], [-FAR, FAR]),
        ]:
            with self.subTest(one=one, other=other):
                self.assertIsNone(gap(one, other))
                self.check_way(one, other)

    def test_told(self):
        for one, other, at in [
            ([2, 2], [3, 1], 1),
            ([2, 2], [1, 3], 1),
            ([4, 1, 1], [0, 3, 3], 2),
            ([3, 0, 3], [1, 4, 1], 1),
            ([8, 2, 2, 0], [5, -1, 5, 3], 3),
            ([-5, -5], [-1, -9], 1),
            ([FAR - 1, 1 - FAR], [-FAR, FAR], 1),
            ([0] * 60, [0] * 58 + [FAR, -FAR], 1),
            ([3422] + [0] * 59, [-59] + [59] * 59, 59),
        ]:
            with self.subTest(one=one, other=other):
                self.check_gap(one, other, at)

    def test_the_least_of_several(self):
        for one, other, at in [
            ([2, 2, 2, 2], [0, 1, 3, 4], 1),
            ([5, 0, 0, 0], [4, 2, 0, -1], 2),
            ([0] * 60, [30] * 30 + [-30] * 30, 1),
        ]:
            with self.subTest(one=one, other=other):
                self.check_gap(one, other, at)

    def test_either_way_about(self):
        self.assertEqual((gap([3, 1], [2, 2]), gap([2, 2], [3, 1])), (None, 1))
        self.assertEqual((gap([4, 1, 1], [3, 3, 0]), gap([3, 3, 0], [4, 1, 1])), (2, 1))

    def test_all_small_ones(self):
        for one, other in itertools.chain(like_pairs(3, -2, 2), like_pairs(4, 0, 3)):
            at = reckoned_gap(one, other)
            self.assertEqual(gap(one, other), at, (one, other))
            self.assertEqual(dues(one, other), reckoned_dues(one, other), (one, other))
            if at is None:
                self.check_way(one, other)
            else:
                self.check_gap(one, other, at)

    def test_order_does_not_matter(self):
        for one, other in itertools.product(itertools.permutations([4, 1, 1]), itertools.permutations([3, 3, 0])):
            self.assertEqual(gap(list(one), list(other)), 2)
            self.assertEqual(gap(list(other), list(one)), 1)
            self.assertEqual(dues(list(one), list(other)), 2)


class Dues(unittest.TestCase):
    def test_told(self):
        for one, other, owed in [
            ([], [], 0),
            ([4], [4], 0),
            ([3, 1], [2, 2], 1),
            ([9, 0, 0], [3, 3, 3], 6),
            ([0, 9, 0], [3, 5, 1], 4),
            ([1, 5, -6], [0, 0, 0], 6),
            ([-1, -9], [-5, -5], 4),
            ([7, -7, 3, -3], [-1, 1, -2, 2], 7),
            ([FAR, -FAR], [0, 0], FAR),
            ([FAR, -FAR] * 30, [0] * 60, 30 * FAR),
            ([FAR] + [-FAR] * 59, [-FAR] * 59 + [FAR], 0),
        ]:
            with self.subTest(one=one, other=other):
                self.assertEqual(dues(one, other), owed)

    def test_with_a_gap(self):
        self.assertEqual(dues([2, 2], [3, 1]), 1)
        self.assertEqual(dues([3, 3, 3], [0, 9, 0]), 6)
        self.assertEqual(dues([4, 1, 1], [3, 3, 0]), 2)
        self.assertEqual(dues([3, 3, 0], [4, 1, 1]), 2)
        self.assertEqual(dues([0] * 60, [FAR, -FAR] * 30), 30 * FAR)

    def test_some_other_order(self):
        for order in itertools.permutations([3, -1, 2, 2]):
            self.assertEqual(dues([3, -1, 2, 2], list(order)), 0)
            self.assertEqual(dues(list(order), [3, -1, 2, 2]), 0)

    def test_either_way_about(self):
        # What the one holds more at some places, the other holds more at the others.
        for seed, purses in itertools.product(range(5), (1, 2, 7, 60)):
            draw = draws(seed)
            one = drawn_row(draw, purses)
            other = drawn_row(draw, purses)
            other[0] += sum(one) - sum(other)
            self.assertEqual(dues(one, other), reckoned_dues(one, other))
            self.assertEqual(dues(other, one), reckoned_dues(one, other))


class Way(WayCase):
    def test_none_needed(self):
        self.assertEqual(way([], []), [])
        self.assertEqual(way([4], [4]), [])
        self.assertEqual(way([FAR] * 60, [FAR] * 60), [])
        for order in itertools.permutations([3, -1, 2, 2]):
            self.assertEqual(way([3, -1, 2, 2], list(order)), [])

    def test_one_gift(self):
        # Here the dues leave but one way.
        self.assertEqual(way([5, 1], [3, 3]), [(0, 1, 2)])
        self.assertEqual(way([1, 5], [3, 3]), [(1, 0, 2)])
        self.assertEqual(way([1, 5], [4, 2]), [(1, 0, 1)])
        self.assertEqual(way([FAR, -FAR], [0, 0]), [(0, 1, FAR)])

    def test_rows_with_equal_numbers(self):
        for one, other in [
            ([9, 0, 0], [3, 3, 3]),
            ([0, 9, 0, 9], [5, 4, 5, 4]),
            ([6, 6, 0, 0, 0, 0], [2, 2, 2, 2, 2, 2]),
            ([4, 4, 4, 0], [3, 3, 3, 3]),
            ([5, 5, 2, 2, -1, -1], [2, 2, 2, 2, 2, 2]),
            ([7, 3, 3, 3, -1], [5, 3, 3, 3, 1]),
        ]:
            with self.subTest(one=one, other=other):
                self.check_way(one, other)
                self.check_way(one[::-1], other)

    def test_each_purse_hands_on_or_is_handed(self):
        # 59 gifts are needed: all but one purse lack something, and each gift has one taker.
        one = [-1] * 30 + [59] + [-1] * 29
        self.assertEqual(len(self.check_way(one, [0] * 60)), 59)
        one = [1] * 20 + [-59] + [1] * 39
        self.assertEqual(len(self.check_way(one, [0] * 60)), 59)

    def test_rows_that_come_of_drawn_gifts(self):
        for seed, purses, bound in itertools.product(range(6), (1, 2, 3, 5, 13, 60), (1, 4, 100, FAR)):
            with self.subTest(seed=seed, purses=purses, bound=bound):
                draw = draws(seed)
                row = drawn_row(draw, purses, bound)
                rows = drawn_gifts(draw, row, 3 * purses)[1]
                for behind in (rows[len(rows) // 4], rows[len(rows) // 2], rows[-1]):
                    draw.shuffle(behind)
                    self.assertIsNone(gap(row, behind))
                    self.check_way(row, behind)

    def test_rows_of_60_purses(self):
        for one, other in [
            ([FAR, -FAR] * 30, [0] * 60),
            ([FAR] * 30 + [-FAR] * 30, [1, -1] * 30),
            ([-FAR] * 59 + [FAR], [1 - FAR] * 59 + [FAR - 59]),
            ([place * place for place in range(60)], [place * place for place in range(59, -1, -1)]),
        ]:
            with self.subTest(one=one, other=other):
                self.check_way(one, other)

    def test_a_gap_is_none_of_the_other_refusals(self):
        with self.assertRaises(PurseError) as caught:
            way([2, 2], [3, 1])
        self.assertIsInstance(caught.exception, Gap)
        self.assertIsInstance(caught.exception, ValueError)
        self.assertNotIsInstance(caught.exception, (NoGift, Unlike, NoText))

    def test_back_from_drawn_gifts_is_a_gap(self):
        for seed, purses in itertools.product(range(6), (2, 3, 13, 60)):
            with self.subTest(seed=seed, purses=purses):
                draw = draws(seed)
                row = drawn_row(draw, purses)
                behind = drawn_gifts(draw, row, 20)[1][-1]
                if fullest_first(behind) != fullest_first(row):
                    sums = [list(itertools.accumulate(fullest_first(held))) for held in (behind, row)]
                    at = min(k for k, (one, other) in enumerate(zip(*sums), start=1) if other > one)
                    self.check_gap(behind, row, at)

    def test_somewhat_beyond_the_bounds_is_not_refused(self):
        one = [FAR + 1, -FAR - 1] * 31
        self.check_way(one, [0] * 62)
        self.check_gap([0] * 62, one, 1)


class LevelRows(WayCase):
    def test_a_way_to_the_level_row(self):
        for row in small_rows(4, -2, 3):
            self.assertIsNone(gap(row, level(row)))
            self.check_way(row, level(row))
        for seed, purses, bound in itertools.product(range(4), (1, 2, 13, 59, 60), (1, 9, FAR)):
            row = drawn_row(draws(seed), purses, bound)
            with self.subTest(row=row):
                self.assertIsNone(gap(row, level(row)))
                self.check_way(row, level(row))

    def test_gifts_leave_the_level_row(self):
        for seed, purses, bound in itertools.product(range(4), (2, 13, 60), (3, FAR)):
            draw = draws(seed)
            row = drawn_row(draw, purses, bound)
            for behind in drawn_gifts(draw, row, 30)[1]:
                self.assertEqual(level(behind), level(row))


def least_handed_on(row):
    """For each row in order that gifts lead to, the least that all amounts together can be."""
    least, queue = {}, [(0, tuple(sorted(row)))]
    while queue:
        handed, held = heapq.heappop(queue)
        if held in least:
            continue
        least[held] = handed
        for taker, giver in itertools.combinations(range(len(held)), 2):
            for amount in range(1, held[giver] - held[taker] + 1):
                heapq.heappush(queue, (handed + amount, tuple(sorted(after(held, (giver, taker, amount))))))
    return least


class JustWhereThereIsNoGap(unittest.TestCase):
    def check_from(self, row, rows):
        least = least_handed_on(row)
        for other in rows:
            if (len(other), sum(other)) != (len(row), sum(row)):
                continue
            self.assertEqual(gap(row, other) is None, tuple(other) in least, (row, other))
            if tuple(other) in least:
                self.assertEqual(dues(row, other), least[tuple(other)], (row, other))

    def test_gifts_lead_there_and_hand_on_no_less_than_the_dues(self):
        for most_purses, least, most in [(3, -2, 3), (4, 0, 3)]:
            rows = [row for row in small_rows(most_purses, least, most) if row == sorted(row)]
            for row in rows:
                self.check_from(row, rows)


if __name__ == "__main__":
    unittest.main()
