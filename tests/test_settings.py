import unittest

from glyphhall.errors import BadDeed, BadHall, HallError, NoFeature, NoLetter, NoRow
from glyphhall.halls import read_hall
from glyphhall.rules import done
from glyphhall.shaping import changed, shaped
from tests.helpers import row_of

HALL_TEXT = """
shape a 1
shape x 1
letter l none left a
feature f on
feature g off
feature h on
rule r f / a / > x
rule s g / a / > x
"""
HUGE = 10 ** 30


def hall():
    return read_hall(HALL_TEXT)


def on_places(feature, settings, count=6):
    """The places of a row of letters at which a feature is on, as a rule of one item tells them."""
    rule = ("t", feature, (), ("a",), (), ("x",))
    cells, times = done(hall(), rule, row_of("a " * count), settings)
    return [place for place, cell in enumerate(cells) if cell[0] == "x"]


class SettingsTest(unittest.TestCase):
    def test_the_halls_own_word(self):
        self.assertEqual(on_places("f", []), [0, 1, 2, 3, 4, 5])
        self.assertEqual(on_places("g", []), [])

    def test_one_setting(self):
        self.assertEqual(on_places("f", [("f", 1, 3, False)]), [0, 4, 5])
        self.assertEqual(on_places("g", [("g", 1, 3, True)]), [1, 2, 3])
        self.assertEqual(on_places("f", [("f", 1, 3, True)]), [0, 1, 2, 3, 4, 5])
        self.assertEqual(on_places("g", [("g", 1, 3, False)]), [])

    def test_one_letter_and_both_ends(self):
        for place in range(6):
            self.assertEqual(on_places("g", [("g", place, place, True)]), [place])
        self.assertEqual(on_places("g", [("g", 0, 5, True)]), [0, 1, 2, 3, 4, 5])
        self.assertEqual(on_places("f", [("f", 0, 5, False)]), [])

    def test_settings_of_another_feature(self):
        self.assertEqual(on_places("f", [("g", 0, 5, False), ("h", 0, 5, False)]), [0, 1, 2, 3, 4, 5])
        self.assertEqual(on_places("g", [("f", 0, 5, True)]), [])

    def test_later_ones_go_ahead(self):
        self.assertEqual(on_places("f", [("f", 0, 4, False), ("f", 2, 5, True)]), [2, 3, 4, 5])
        self.assertEqual(on_places("f", [("f", 2, 5, True), ("f", 0, 4, False)]), [5])
        self.assertEqual(on_places("g", [("g", 0, 5, True), ("g", 1, 4, False), ("g", 2, 3, True)]), [0, 2, 3, 5])
        self.assertEqual(on_places("g", [("g", 2, 2, True), ("g", 2, 2, False), ("f", 2, 2, True)]), [])

    def test_last_ahead_of_first(self):
        self.assertEqual(on_places("f", [("f", 3, 2, False)]), [0, 1, 2, 3, 4, 5])
        self.assertEqual(on_places("g", [("g", 5, 0, True)]), [])
        self.assertEqual(on_places("g", [("g", 0, -1, True), ("g", 6, 5, True)]), [])

    def test_below_and_beyond_the_row(self):
        self.assertEqual(on_places("g", [("g", -3, 1, True)]), [0, 1])
        self.assertEqual(on_places("g", [("g", 4, 9, True)]), [4, 5])
        self.assertEqual(on_places("g", [("g", -1, 6, True)]), [0, 1, 2, 3, 4, 5])
        self.assertEqual(on_places("g", [("g", -5, -1, True)]), [])
        self.assertEqual(on_places("g", [("g", 6, 12, True)]), [])

    def test_numbers_of_many_figures(self):
        self.assertEqual(on_places("g", [("g", -HUGE, HUGE, True)]), [0, 1, 2, 3, 4, 5])
        self.assertEqual(on_places("g", [("g", 2, HUGE, True)]), [2, 3, 4, 5])
        self.assertEqual(on_places("f", [("f", -HUGE, 2, False)]), [3, 4, 5])
        self.assertEqual(on_places("g", [("g", HUGE, 3 * HUGE, True), ("g", -HUGE, -5, True), ("g", HUGE, 0, True)]), [])

    def test_two_hundred_settings(self):
        settings = [("g", place % 6, place % 6, place >= 197) for place in range(200)]
        self.assertEqual(on_places("g", settings), [0, 1, 5])

    def test_settings_in_a_shaped_row(self):
        cells, counts = shaped(hall(), ["l"] * 4, [("f", 0, 2, False), ("g", 2, 9, True)])
        self.assertEqual([cell[0] for cell in cells], ["a", "a", "x", "x"])
        self.assertEqual(counts, [1, 1])


class NoFeatureTest(unittest.TestCase):
    def refused(self, asked, refusal=NoFeature):
        with self.assertRaises(refusal) as caught:
            asked()
        self.assertEqual(type(caught.exception), refusal)
        return caught.exception

    def settings_with(self, place, name="none"):
        settings = [("f", 0, 1, True), ("g", 0, 1, False), ("h", 0, 1, True)]
        settings[place] = (name, 5, 4, True)
        return settings

    def test_in_the_first_a_middle_and_the_last_setting(self):
        for place in range(3):
            for row in ([], ["l"], ["l"] * 200):
                self.refused(lambda: shaped(hall(), row, self.settings_with(place)))

    def test_where_the_hall_has_no_rules_or_nothing(self):
        bare = read_hall("shape a 1\nletter l none left a\nfeature f on\nfeature g on\nfeature h on")
        for place in range(3):
            for row in ([], ["l", "l"]):
                self.refused(lambda: shaped(bare, row, self.settings_with(place)))
        self.refused(lambda: shaped(read_hall(""), [], [("f", 0, 0, True)]))

    def test_names_of_other_sorts(self):
        for name in ("a", "l", "r", "", "F", "on"):
            self.refused(lambda: shaped(hall(), ["l"], self.settings_with(1, name)))

    def test_behind_no_letter(self):
        error = self.refused(lambda: shaped(hall(), ["l", "q"], self.settings_with(0)), NoLetter)
        self.assertEqual(error.place, 1)

    def test_changed(self):
        for place in range(3):
            self.refused(lambda: changed(hall(), ["l", "l"], self.settings_with(place), 1, "l"))

    def test_it_stands_under_hall_error_and_no_other_refusal(self):
        error = self.refused(lambda: shaped(hall(), [], [("none", 0, 0, True)]))
        self.assertIsInstance(error, HallError)
        self.assertNotIsInstance(error, (BadHall, NoLetter, NoRow, BadDeed))
