import unittest

from glyphhall.errors import BadDeed, BadHall, HallError, NoFeature, NoLetter, NoRow

REFUSALS = (BadHall, NoLetter, NoFeature, NoRow, BadDeed)


class ErrorsTest(unittest.TestCase):
    def test_any_refusal_is_a_value_error(self):
        self.assertEqual(HallError.__bases__, (ValueError,))

    def test_each_stands_under_hall_error_alone(self):
        for refusal in REFUSALS:
            self.assertEqual(refusal.__bases__, (HallError,), refusal)

    def test_none_stands_under_another(self):
        for one in REFUSALS:
            for other in REFUSALS:
                self.assertEqual(issubclass(one, other), one == other, (one, other))

    def test_place_and_word_as_given(self):
        for refusal in (BadHall, BadDeed):
            for place, word in ((0, "row"), (17, "name"), (299, "")):
                error = refusal(place, word)
                self.assertEqual((error.place, error.word), (place, word))

    def test_place_as_given(self):
        for place in (0, 199):
            self.assertEqual(NoLetter(place).place, place)

    def test_those_without_fields(self):
        for refusal in (NoFeature, NoRow):
            with self.assertRaises(HallError):
                raise refusal()

    def test_words_hold_no_numbers(self):
        # Python refuses to write a number of this size, so it must not be tried.
        huge = 10 ** 5000
        for error in (BadHall(huge, "row"), BadDeed(huge, "row"), NoLetter(huge)):
            self.assertIsInstance(str(error), str)
            self.assertEqual(error.place, huge)
