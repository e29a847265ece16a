"""Tops [3], spread [4] and level row [5], and what [1] and [2] promise of them."""

import inspect
import itertools
import unittest

from pursewise.rows import level, spread, tops

FAR = 10 ** 60
ASKED = [tops, spread, level]


def small_rows():
    for purses in range(5):
        for row in itertools.product(range(-3, 4), repeat=purses):
            yield list(row)


def wide_rows():
    return [
        [],
        [0],
        [-7],
        [FAR],
        [-FAR],
        [FAR, -FAR],
        [-FAR, FAR, FAR - 1, 1 - FAR, 0],
        [FAR] * 60,
        [-FAR] * 60,
        [FAR, -FAR] * 30,
        [FAR - place * place * 10 ** 55 for place in range(60)],
        [(place * 37) % 60 - 29 for place in range(60)],
    ]


def orders(row):
    if len(row) <= 4:
        return [list(order) for order in itertools.permutations(row)]
    return [row[::-1], row[1:] + row[:1], sorted(row), row[1::2] + row[::2]]


class Interface(unittest.TestCase):
    def test_arguments(self):
        for asked in ASKED:
            with self.subTest(asked=asked.__name__):
                self.assertEqual(list(inspect.signature(asked).parameters), ["row"])

    def test_kinds(self):
        for row in wide_rows():
            with self.subTest(row=row):
                self.assertIs(type(spread(row)), int)
                for told in (tops(row), level(row)):
                    self.assertIs(type(told), list)
                    self.assertEqual([held for held in told if type(held) is not int], [])


class Handling(unittest.TestCase):
    def test_row_is_as_it_was(self):
        for row in wide_rows() + [[1, 3, 2], [3, 2, 1], [-1, 5, 5, -9]]:
            for asked in ASKED:
                with self.subTest(row=row, asked=asked.__name__):
                    before = list(row)
                    asked(row)
                    self.assertEqual(row, before)

    def test_told_list_is_the_askers_own(self):
        for row in wide_rows() + [[2, 2, 1], [1, 2]]:
            for asked in (tops, level):
                with self.subTest(row=row, asked=asked.__name__):
                    before = list(row)
                    told = asked(row)
                    kept = list(told)
                    told.append("changed")
                    told[0] = "changed"
                    self.assertEqual(row, before)
                    self.assertEqual(asked(row), kept)

    def test_told_list_is_a_new_one(self):
        for row in ([], [4], [2, 2, 1]):
            for asked in (tops, level):
                with self.subTest(row=row, asked=asked.__name__):
                    told = asked(row)
                    self.assertIsNot(told, row)
                    self.assertIsNot(told, asked(row))

    def test_same_row_tells_the_same(self):
        for row in wide_rows():
            for asked in ASKED:
                with self.subTest(row=row, asked=asked.__name__):
                    first = asked(list(row))
                    asked([5, -5, 9])
                    self.assertEqual(asked(list(row)), first)

    def test_somewhat_beyond_the_bounds_is_not_refused(self):
        row = [FAR + 1] * 61
        self.assertEqual(tops(row), [(FAR + 1) * k for k in range(62)])
        self.assertEqual(spread(row), 0)
        self.assertEqual(level(row), row)


class Tops(unittest.TestCase):
    def test_told(self):
        cases = [
            ([], [0]),
            ([7], [0, 7]),
            ([0], [0, 0]),
            ([-7], [0, -7]),
            ([1, 3, 2], [0, 3, 5, 6]),
            ([-1, -3, -2], [0, -1, -3, -6]),
            ([4, -4, 0], [0, 4, 4, 0]),
            ([5, 5, 5], [0, 5, 10, 15]),
            ([2, 9, 2, 9], [0, 9, 18, 20, 22]),
            ([10, 9, 100], [0, 100, 110, 119]),
        ]
        for row, told in cases:
            with self.subTest(row=row):
                self.assertEqual(tops(row), told)

    def test_the_far_ends(self):
        self.assertEqual(tops([-FAR, FAR]), [0, FAR, 0])
        self.assertEqual(tops([-FAR, FAR - 1, FAR]), [0, FAR, 2 * FAR - 1, FAR - 1])
        self.assertEqual(tops([FAR] * 60), [FAR * k for k in range(61)])
        self.assertEqual(tops([-FAR] * 60), [-FAR * k for k in range(61)])

    def test_each_is_the_most_that_so_many_purses_hold(self):
        for row in small_rows():
            most = [max(map(sum, itertools.combinations(row, k))) for k in range(len(row) + 1)]
            self.assertEqual(tops(row), most, row)

    def test_length_first_and_last(self):
        for row in wide_rows():
            with self.subTest(row=row):
                told = tops(row)
                self.assertEqual(len(told), len(row) + 1)
                self.assertEqual(told[0], 0)
                self.assertEqual(told[-1], sum(row))

    def test_order_does_not_matter(self):
        for row in wide_rows() + [[3, -1, 2, 2]]:
            for order in orders(row):
                with self.subTest(row=row, order=order):
                    self.assertEqual(tops(order), tops(row))


class Spread(unittest.TestCase):
    def test_told(self):
        cases = [
            ([], 0),
            ([7], 0),
            ([-7], 0),
            ([1, 2], 1),
            ([0, 3], 9),
            ([-2, 3], 25),
            ([1, 2, 3], 6),
            ([-1, -2, -3], 6),
            ([5, 5, 5], 0),
            ([-5, -5], 0),
            ([4, -4, 0], 96),
        ]
        for row, told in cases:
            with self.subTest(row=row):
                self.assertEqual(spread(row), told)

    def test_the_far_ends(self):
        self.assertEqual(spread([FAR, -FAR]), 4 * 10 ** 120)
        self.assertEqual(spread([FAR, FAR - 1]), 1)
        self.assertEqual(spread([-FAR, 1 - FAR, -FAR]), 2)
        self.assertEqual(spread([FAR, -FAR] * 30), 3600 * 10 ** 120)
        self.assertEqual(spread([FAR] * 59 + [FAR - 1]), 59)

    def test_it_is_the_squares_of_all_differences(self):
        for row in itertools.chain(small_rows(), wide_rows()):
            differences = [(one - other) ** 2 for one, other in itertools.combinations(row, 2)]
            self.assertEqual(spread(row), sum(differences), row)

    def test_nought_just_where_all_hold_alike_and_never_below(self):
        for row in itertools.chain(small_rows(), wide_rows()):
            told = spread(row)
            self.assertGreaterEqual(told, 0, row)
            self.assertEqual(told == 0, len(set(row)) <= 1, row)

    def test_order_does_not_matter(self):
        for row in wide_rows() + [[3, -1, 2, 2]]:
            for order in orders(row):
                with self.subTest(row=row, order=order):
                    self.assertEqual(spread(order), spread(row))


class Level(unittest.TestCase):
    def test_told(self):
        cases = [
            ([], []),
            ([7], [7]),
            ([-7], [-7]),
            ([0, 0], [0, 0]),
            ([0, 6], [3, 3]),
            ([0, 7], [4, 3]),
            ([9, 0, 1], [4, 3, 3]),
            ([9, 0, 2], [4, 4, 3]),
            ([9, 0, 3], [4, 4, 4]),
            ([0, 1, 0], [1, 0, 0]),
        ]
        for row, told in cases:
            with self.subTest(row=row):
                self.assertEqual(level(row), told)

    def test_sums_below_nought(self):
        cases = [
            ([0, -1], [0, -1]),
            ([-1, 0], [0, -1]),
            ([-7, 0], [-3, -4]),
            ([-6, 0], [-3, -3]),
            ([-9, 0, -1], [-3, -3, -4]),
            ([-9, 0, -2], [-3, -4, -4]),
            ([-9, 0, -3], [-4, -4, -4]),
            ([5, -6, 0], [0, 0, -1]),
        ]
        for row, told in cases:
            with self.subTest(row=row):
                self.assertEqual(level(row), told)

    def test_level_already(self):
        for row in ([2, 2, 1], [4, 4, 4], [0, -1, -1], [FAR, FAR - 1]):
            with self.subTest(row=row):
                self.assertEqual(level(row), row)
                self.assertEqual(level(row[::-1]), row)

    def test_the_far_ends(self):
        self.assertEqual(level([FAR, -FAR]), [0, 0])
        self.assertEqual(level([FAR - 1, FAR]), [FAR, FAR - 1])
        self.assertEqual(level([-FAR, 1 - FAR]), [1 - FAR, -FAR])
        self.assertEqual(level([-FAR] * 60), [-FAR] * 60)
        self.assertEqual(level([FAR - 1] + [FAR] * 59), [FAR] * 59 + [FAR - 1])
        self.assertEqual(level([1 - FAR] + [-FAR] * 59), [1 - FAR] + [-FAR] * 59)

    def test_as_many_purses_that_hold_the_same_and_differ_by_one_at_most(self):
        for row in itertools.chain(small_rows(), wide_rows()):
            told = level(row)
            self.assertEqual(len(told), len(row), row)
            self.assertEqual(sum(told), sum(row), row)
            self.assertEqual(told, sorted(told, reverse=True), row)
            if told:
                self.assertLessEqual(told[0] - told[-1], 1, row)

    def test_order_does_not_matter(self):
        for row in wide_rows() + [[3, -1, 2, 2]]:
            for order in orders(row):
                with self.subTest(row=row, order=order):
                    self.assertEqual(level(order), level(row))


if __name__ == "__main__":
    unittest.main()
