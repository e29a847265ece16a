"""Over the whole program [2]: nothing handed in is changed, and what is told is the asker's own."""

import copy
import unittest

from drawn import FAR, drawn_gifts, drawn_row, draws
from pursewise.errors import PurseError
from pursewise.gifts import done, fits, shares, walked
from pursewise.notes import read, shown
from pursewise.rows import level, spread, tops
from pursewise.ways import dues, gap, way

WIDE = [FAR, -FAR] * 30


def answered():
    """Questions that are answered: what is asked, and a list of what is handed in."""
    draw = draws(1)
    row = drawn_row(draw, 60)
    gifts, rows = drawn_gifts(draw, row, 200)
    few = drawn_row(draw, 24)
    asked = [(told_of, [held]) for told_of in (tops, spread, level) for held in ([], [3], [1, 5, 3], WIDE, row)]
    asked += [
        (fits, [[1, 5], (1, 0, 4)]),
        (fits, [[1, 5], (1, 0, 5)]),
        (fits, [[], (0, 1, 1)]),
        (done, [[1, 5], (1, 0, 4)]),
        (done, [WIDE, (0, 59, 2 * FAR)]),
        (walked, [[], []]),
        (walked, [[1, 5, 3], []]),
        (walked, [WIDE, []]),
        (walked, [[1, 5, 3], [(1, 0, 4), (0, 2, 1)]]),
        (walked, [row, gifts]),
        (shares, [[], []]),
        (shares, [[1, 5, 3], []]),
        (shares, [[1, 5, 3], [(1, 0, 4), (0, 2, 1)]]),
        (shares, [few, drawn_gifts(draw, few, 24)[0]]),
        (gap, [[], []]),
        (gap, [[1, 5, 3], [3, 3, 3]]),
        (gap, [[3, 3, 3], [1, 5, 3]]),
        (dues, [[1, 5, 3], [3, 3, 3]]),
        (dues, [[3, 3, 3], [1, 5, 3]]),
        (dues, [row, rows[-1]]),
        (way, [[], []]),
        (way, [[1, 5, 3], [3, 5, 1]]),
        (way, [[1, 5, 3], [3, 3, 3]]),
        (way, [WIDE, [0] * 60]),
        (way, [row, rows[-1]]),
        (shown, [[]]),
        (shown, [[(0, 12, 500), (3, 1, 7)]]),
        (read, [""]),
        (read, ["0>12:500 3>1:7"]),
    ]
    return asked


def refused():
    draw = draws(2)
    row = drawn_row(draw, 13)
    gifts = drawn_gifts(draw, row, 20)[0]
    return [
        (done, [[1, 5], (0, 1, 1)]),
        (done, [[1, 5], (1, 0, 5)]),
        (walked, [row, gifts + [(0, 0, 1)]]),
        (walked, [row, [(0, 0, 1)] + gifts]),
        (shares, [row, gifts + [(0, 0, 1)]]),
        (shares, [row, gifts[:10] + [(13, 0, 1)] + gifts[10:]]),
        (gap, [[5, 1, 3], [1, 2]]),
        (dues, [[5, 1, 3], [1, 2, 3]]),
        (way, [[5, 1, 3], [1, 2, 3]]),
        (way, [[3, 2, 3], [1, 5, 2]]),
        (read, ["0>12:500 3>1:7 "]),
    ]


def lists_within(told):
    """All lists within what was told, itself too."""
    found = [told] if isinstance(told, list) else []
    for part in told if isinstance(told, (list, tuple)) else []:
        found += lists_within(part)
    return found


class Handling(unittest.TestCase):
    def test_handed_in_is_as_it_was(self):
        for asked, given in answered():
            with self.subTest(asked=asked.__name__, given=given):
                before = copy.deepcopy(given)
                asked(*given)
                self.assertEqual(given, before)

    def test_handed_in_is_as_it_was_behind_a_refusal(self):
        for asked, given in refused():
            with self.subTest(asked=asked.__name__, given=given):
                before = copy.deepcopy(given)
                self.assertRaises(PurseError, asked, *given)
                self.assertEqual(given, before)

    def test_told_lists_are_new_ones(self):
        for asked, given in answered():
            with self.subTest(asked=asked.__name__, given=given):
                told = lists_within(asked(*given))
                others = lists_within(given) + lists_within(asked(*given))
                self.assertEqual(len({id(one) for one in told}), len(told))
                self.assertEqual({id(one) for one in told} & {id(one) for one in others}, set())

    def test_told_lists_are_the_askers_own(self):
        for asked, given in answered():
            with self.subTest(asked=asked.__name__, given=given):
                before = copy.deepcopy(given)
                told = asked(*given)
                kept = copy.deepcopy(told)
                for one in lists_within(told):
                    one[:] = ["changed"] * (len(one) + 1)
                self.assertEqual(given, before)
                self.assertEqual(asked(*given), kept)
                self.assertEqual(asked(*before), kept)

    def test_same_question_tells_the_same_whatever_was_asked_between(self):
        first = [asked(*given) for asked, given in answered()]
        for asked, given in refused():
            self.assertRaises(PurseError, asked, *given)
        again = [asked(*given) for asked, given in reversed(answered())]
        self.assertEqual(first, again[::-1])

    def test_told_rows_do_not_follow_the_row_handed_in(self):
        row = [9, 0, 3]
        told = [walked(row, []), done(row, (0, 1, 4)), walked(row, [(0, 1, 4)]), shares(row, []), way(row, [4, 4, 4])]
        kept = copy.deepcopy(told)
        row[:] = [1, 1, 1]
        self.assertEqual(told, kept)


if __name__ == "__main__":
    unittest.main()
