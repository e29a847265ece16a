"""Lists of gifts as texts [15]."""

import inspect
import itertools
import re
import unittest

from drawn import draws
from pursewise.errors import Gap, NoGift, NoText, PurseError, Unlike
from pursewise.notes import read, shown

SIGNS = [chr(number) for number in range(32, 127) if number != 37]
PLACE = "(0|[1-9][0-9]?)"
GIFT = re.compile(PLACE + ">" + PLACE + ":([1-9][0-9]{0,60})")


def reckoned_gifts(text):
    """What the text tells, or None where it is no list of gifts."""
    gifts = []
    for written in text.split(" ") if text else []:
        found = GIFT.fullmatch(written)
        if found is None or found[1] == found[2]:
            return None
        gifts.append(tuple(map(int, found.groups())))
    return gifts


def drawn_list(draw, count):
    gifts = []
    while len(gifts) < count:
        giver, taker = draw.sample(range(100), 2)
        gifts.append((giver, taker, draw.randint(1, 10 ** draw.randint(1, 61) - 1)))
    return gifts


class Interface(unittest.TestCase):
    def test_arguments(self):
        self.assertEqual(list(inspect.signature(shown).parameters), ["gifts"])
        self.assertEqual(list(inspect.signature(read).parameters), ["text"])

    def test_kinds(self):
        for gifts in ([], [(0, 12, 500)], [(0, 12, 500), (3, 1, 7)]):
            self.assertIs(type(shown(gifts)), str)
            told = read(shown(gifts))
            self.assertIs(type(told), list)
            self.assertEqual([gift for gift in told if type(gift) is not tuple], [])
            self.assertEqual([part for gift in told for part in gift if type(part) is not int], [])


class ShownAndRead(unittest.TestCase):
    def check_both(self, gifts, text):
        with self.subTest(text=text):
            self.assertEqual(shown(gifts), text)
            self.assertEqual(read(text), gifts)

    def test_the_text_of_the_document(self):
        self.check_both([(0, 12, 500), (3, 1, 7)], "0>12:500 3>1:7")

    def test_no_gifts(self):
        self.check_both([], "")

    def test_one_gift(self):
        self.check_both([(1, 0, 1)], "1>0:1")

    def test_the_order_of_the_gifts_stays(self):
        self.check_both([(3, 1, 7), (0, 12, 500), (3, 1, 7)], "3>1:7 0>12:500 3>1:7")

    def test_places(self):
        for giver, taker in itertools.permutations([0, 1, 9, 10, 11, 20, 59, 60, 90, 99], 2):
            self.check_both([(giver, taker, 7)], str(giver) + ">" + str(taker) + ":7")

    def test_amounts(self):
        for amount in ["1", "9", "10", "99", "100", "9" * 60, "1" + "0" * 60, "2" + "0" * 60, "9" * 61]:
            self.check_both([(0, 1, int(amount))], "0>1:" + amount)

    def test_all_places(self):
        for giver, taker in itertools.permutations(range(100), 2):
            gift = (giver, taker, 1 + giver * taker)
            self.assertEqual(read(shown([gift])), [gift])

    def test_drawn_lists(self):
        for seed in range(10):
            draw = draws(seed)
            for count in (1, 2, 5, 50, 200):
                gifts = drawn_list(draw, count)
                text = shown(gifts)
                self.assertEqual(text, " ".join("%d>%d:%d" % gift for gift in gifts))
                self.assertEqual(read(text), gifts)
                self.assertEqual(shown(read(text)), text)

    def test_how_many_gifts_is_not_looked_at(self):
        gifts = [(1, 0, 1), (0, 1, 2)] * 1150
        self.assertLessEqual(len(shown(gifts)), 14000)
        self.assertEqual(read(shown(gifts)), gifts)

    def test_the_longest_text_of_200_gifts(self):
        gifts = [(98, 99, 10 ** 61 - 1)] * 200
        self.assertLessEqual(len(shown(gifts)), 14000)
        self.assertEqual(read(shown(gifts)), gifts)

    def test_somewhat_beyond_the_bounds_is_not_refused(self):
        gifts = [(98, 99, 10 ** 61 - 1)] * 210
        self.assertGreater(len(shown(gifts)), 14000)
        self.assertEqual(read(shown(gifts)), gifts)


class Refused(unittest.TestCase):
    def check_refused(self, *texts):
        for text in texts:
            for whole in (text, "3>1:7 " + text, text + " 3>1:7", "3>1:7 " + text + " 1>3:7"):
                with self.subTest(text=whole):
                    self.assertRaises(NoText, read, whole)

    def test_nought_ahead(self):
        self.check_refused("00>1:7", "01>2:7", "1>00:7", "1>02:7", "1>2:07", "1>2:007", "012>3:7", "3>012:7")
        self.check_refused("1>2:0" + "9" * 60, "1>2:0" + "9" * 61)

    def test_amount_nought(self):
        self.check_refused("1>2:0", "0>1:0", "1>2:00", "1>2:" + "0" * 61, "1>2:" + "0" * 62)

    def test_giver_and_taker_alike(self):
        self.check_refused("0>0:1", "1>1:7", "12>12:7", "99>99:1")

    def test_too_many_figures(self):
        self.check_refused("100>1:7", "1>100:7", "999>0:1", "0>999:1", "1>2:1" + "0" * 61, "1>2:" + "9" * 62)

    def test_very_many_figures(self):
        many = "9" * 13900
        self.check_refused("1>2:" + many, many + ">2:1", "1>" + many + ":1", many)

    def test_blanks(self):
        for text in (" ", "  ", " 1>2:7", "1>2:7 ", "1>2:7  3>1:7", " 1>2:7 3>1:7", "1>2:7 3>1:7 "):
            with self.subTest(text=text):
                self.assertRaises(NoText, read, text)
        self.check_refused("1 >2:7", "1> 2:7", "1>2 :7", "1>2: 7", "1 2>3:7", "1>2:7 7")

    def test_missing_signs(self):
        self.check_refused("1", "12", "1>2", "1:7", "1>27", "12:7", ">", ":", ">:", "1>", "1>:", ">2:", ":7")

    def test_missing_figures(self):
        self.check_refused(">2:7", "1>:7", "1>2:", ">:7", "1>:", ">2:")

    def test_doubled_signs(self):
        self.check_refused("1>>2:7", "1>2::7", "1>2>3:7", "1>2:7:7", "1>2:7>7", ">1>2:7", "1>2:7:", "1>2:7>", ":1>2:7")

    def test_signs_in_wrong_order(self):
        self.check_refused("1:2>7", "1:>27", "1<2:7", "1>2;7", "1>2=7", "2<1:7")

    def test_other_signs_ahead_of_and_within_figures(self):
        for sign in ("+", "-", "_", "."):
            for form in ("S1>2:7", "1>S2:7", "1>2:S7", "1S>2:7", "1>2S:7", "1>2:7S", "1S1>2:7", "1>2S2:7", "1>2:7S7"):
                self.check_refused(form.replace("S", sign))
            self.check_refused("1>2:7" + sign + "000", sign, "1>2:" + sign)

    def test_letters(self):
        self.check_refused("a>2:7", "1>b:7", "1>2:c", "1>2:1e3", "1>2:0x7", "0b1>2:7", "1>2:7L", "x", "1>2:7,3>1:7")

    def test_each_other_sign_at_each_place(self):
        for sign, place in itertools.product(SIGNS, range(9)):
            if sign in "0123456789":
                continue
            text = "12>34:56"
            self.check_refused(text[:place] + sign + text[place:])

    def test_other_rows_ends_and_scripts(self):
        # Not promised, but Python's own reading of numbers would let them pass.
        self.check_refused("1>2:7\n", "\n", "1>2:\n7", "\t1>2:7", "1>2:\u0667", "\u0661>2:7", "1>\u00b2:7")

    def test_the_refusal_is_none_of_the_others(self):
        with self.assertRaises(PurseError) as caught:
            read("x")
        self.assertIsInstance(caught.exception, NoText)
        self.assertIsInstance(caught.exception, ValueError)
        self.assertNotIsInstance(caught.exception, (NoGift, Unlike, Gap))


class AgainstTheForm(unittest.TestCase):
    def check_text(self, text):
        gifts = reckoned_gifts(text)
        if gifts is None:
            self.assertRaises(NoText, read, text)
        else:
            self.assertEqual(read(text), gifts, text)
            self.assertEqual(shown(gifts), text)

    def test_all_short_texts(self):
        for length in range(8):
            for signs in itertools.product("01>: ", repeat=length):
                self.check_text("".join(signs))

    def test_drawn_slips(self):
        for seed in range(3):
            draw = draws(seed)
            for _ in range(2000):
                text = shown(drawn_list(draw, draw.randint(1, 4)))
                for _ in range(draw.randint(1, 2)):
                    place = draw.randint(0, len(text))
                    sign = draw.choice(["", "", "0", "1", ">", ":", " ", draw.choice(SIGNS)])
                    text = text[:place] + sign + text[place + draw.randint(0, 1):]
                self.check_text(text)


if __name__ == "__main__":
    unittest.main()
