"""The refusals, as the interface tells them."""

import unittest

from pursewise.errors import Gap, NoGift, NoText, PurseError, Unlike

REFUSALS = [NoGift, Unlike, Gap, NoText]


def made(refusal):
    return refusal(3) if refusal is Gap else refusal("words")


class RefusalKinds(unittest.TestCase):
    def test_any_refusal_is_a_value_error(self):
        self.assertTrue(issubclass(PurseError, ValueError))
        with self.assertRaises(ValueError):
            raise PurseError("words")

    def test_each_is_a_purse_error_and_a_value_error(self):
        for refusal in REFUSALS:
            with self.subTest(refusal=refusal.__name__):
                with self.assertRaises(PurseError):
                    raise made(refusal)
                with self.assertRaises(ValueError):
                    raise made(refusal)

    def test_none_stands_under_another(self):
        for one in REFUSALS:
            for other in REFUSALS:
                with self.subTest(one=one.__name__, other=other.__name__):
                    self.assertEqual(issubclass(one, other), one is other)
                    self.assertEqual(isinstance(made(one), other), one is other)

    def test_each_stands_straight_under_its_base(self):
        self.assertEqual(PurseError.__bases__, (ValueError,))
        for refusal in REFUSALS:
            with self.subTest(refusal=refusal.__name__):
                self.assertEqual(refusal.__bases__, (PurseError,))

    def test_other_value_errors_are_no_refusals(self):
        with self.assertRaises(ValueError) as caught:
            int("no number")
        self.assertNotIsInstance(caught.exception, PurseError)


class GapField(unittest.TestCase):
    def test_field_is_set_when_made(self):
        self.assertEqual(Gap(3).at, 3)
        self.assertEqual(Gap(at=3).at, 3)

    def test_field_is_there_when_taken(self):
        with self.assertRaises(PurseError) as caught:
            raise Gap(60)
        self.assertEqual(caught.exception.at, 60)

    def test_each_keeps_its_own(self):
        one, other = Gap(1), Gap(2)
        self.assertEqual((one.at, other.at), (1, 2))

    def test_it_is_not_made_without_its_field(self):
        with self.assertRaises(TypeError):
            Gap()


if __name__ == "__main__":
    unittest.main()
