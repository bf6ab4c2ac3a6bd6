import unittest

from glyphhall.cutting import cut_rows
from glyphhall.errors import NoFeature, NoLetter
from glyphhall.halls import read_hall
from tests.helpers import check_apart
from tests.some_halls import chance_of, some_hall, some_row, some_settings
from tests.test_shaping import plain_shaped

# Letters a (10 wide), b (7), c (0) and a mark m; the gaps g (2 wide) and h (0).
PLAIN = """
shape a 10
shape b 7
shape c 0
shape m 9
shape g 2
shape h 0
mark m above 0 0 0 0
letter a none left a
letter b none right b
letter c none either c
letter m clear left m
letter g none left g
letter h none left h
gap g
gap h
"""

# A letter w that is a gap: two of them are joined to one narrow shape. A letter p that is a gap and is wide at the end.
NARROWING = """
shape w 10
shape n 3
shape pend 9
shape p 1
shape pfirst 1
shape pmid 1
letter w none left w
letter p both left p pfirst pmid pend
gap w
gap p
feature f on
rule joined f / w w / > n
"""

# The rules are done where the feature f is on: then a is 1 wide, else 10.
SWITCHED = """
shape a 10
shape x 1
letter a none left a
gap a
feature f off
rule narrow f / a / > x
"""

FAR = 10 ** 25


def plain_cut(hall, letters, settings, limit):
    """The lines just as point 20 is worded: pieces, and the greatest count of all that fit."""
    pieces = []
    for place, name in enumerate(letters):
        if place == 0 or letters[place - 1] in hall.gaps:
            pieces.append([])
        pieces[-1].append(place)
    lines = []
    while pieces:
        counts = []
        for count in range(1, len(pieces) + 1):
            first, end = pieces[0][0], pieces[count - 1][-1] + 1
            moved = [(feature, one - first, last - first, on) for feature, one, last, on in settings]
            cells = plain_shaped(hall, letters[first:end], moved)[0]
            if sum(hall.shapes[shape] for shape, places in cells if shape not in hall.marks) <= limit:
                counts.append(count)
        count = max(counts) if counts else 1
        lines.append((pieces[0][0], pieces[count - 1][-1] + 1))
        pieces = pieces[count:]
    return lines


def told_lines(lines):
    return " ".join(f"{first}-{end}" for first, end in lines)


class CutTest(unittest.TestCase):
    def check(self, text, letters, limit, lines, settings=()):
        told = cut_rows(read_hall(text), list(letters), list(settings), limit)
        self.assertEqual(told_lines(told), lines, (letters, limit))
        self.assertEqual(told, plain_cut(read_hall(text), list(letters), list(settings), limit))

    def test_no_letters_no_lines(self):
        for limit in (-1, 0, 5, FAR):
            self.check(PLAIN, "", limit, "")
            self.assertEqual(cut_rows(read_hall(""), [], [], limit), [])

    def test_no_gap_letters_one_line(self):
        for limit in (-FAR, -1, 0, 16, 17, FAR):
            self.check(PLAIN, "ab", limit, "0-2")
            self.check(PLAIN, "a" * 30, limit, "0-30")

    def test_all_in_one_line(self):
        self.check(PLAIN, "agbga", 31, "0-5")
        self.check(PLAIN, "agbga", FAR, "0-5")

    def test_lines_at_the_edges_of_their_widths(self):
        # The pieces a g, b g and a are 12, 9 and 10 wide.
        self.check(PLAIN, "agbga", 30, "0-4 4-5")
        self.check(PLAIN, "agbga", 21, "0-4 4-5")
        self.check(PLAIN, "agbga", 20, "0-2 2-5")
        self.check(PLAIN, "agbga", 19, "0-2 2-5")
        self.check(PLAIN, "agbga", 18, "0-2 2-4 4-5")
        self.check(PLAIN, "agbga", 12, "0-2 2-4 4-5")

    def test_one_piece_where_no_count_fits(self):
        for limit in (11, 9, 8, 1, 0, -1, -FAR):
            self.check(PLAIN, "agbga", limit, "0-2 2-4 4-5")
        self.check(PLAIN, "aagbgb", 18, "0-3 3-6")

    def test_a_gap_letter_at_the_end(self):
        self.check(PLAIN, "agbg", 21, "0-4")
        self.check(PLAIN, "agbg", 20, "0-2 2-4")
        self.check(PLAIN, "ag", 0, "0-2")
        self.check(PLAIN, "g", -1, "0-1")

    def test_a_gap_letter_at_the_begin(self):
        self.check(PLAIN, "gab", 19, "0-3")
        self.check(PLAIN, "gab", 18, "0-1 1-3")
        self.check(PLAIN, "gab", 1, "0-1 1-3")

    def test_gap_letters_one_behind_the_other(self):
        self.check(PLAIN, "aggb", 13, "0-2 2-4")
        self.check(PLAIN, "aggb", 14, "0-3 3-4")
        self.check(PLAIN, "ggg", 4, "0-2 2-3")
        self.check(PLAIN, "ggg", 0, "0-1 1-2 2-3")
        self.check(PLAIN, "ghhg", 2, "0-3 3-4")

    def test_widths_of_nought(self):
        self.check(PLAIN, "chchc", 0, "0-5")
        self.check(PLAIN, "chchc", -1, "0-2 2-4 4-5")
        self.check(PLAIN, "ahch", 0, "0-2 2-4")
        self.check(PLAIN, "hhah", 0, "0-2 2-4")

    def test_the_widths_of_marks_do_not_count(self):
        self.check(PLAIN, "amgmm", 12, "0-5")
        self.check(PLAIN, "mgmh", 2, "0-4")

    def test_the_greatest_count_that_fits_not_the_first_one(self):
        # From one piece to five: 10, 3, 13, 6 and 16 wide.
        self.check(NARROWING, "wwwww", 2, "0-1 1-2 2-3 3-4 4-5")
        self.check(NARROWING, "wwwww", 3, "0-2 2-4 4-5")
        self.check(NARROWING, "wwwww", 5, "0-2 2-4 4-5")
        self.check(NARROWING, "wwwww", 6, "0-4 4-5")
        self.check(NARROWING, "wwwww", 10, "0-4 4-5")
        self.check(NARROWING, "wwwww", 15, "0-4 4-5")
        self.check(NARROWING, "wwwww", 16, "0-5")

    def test_lines_are_shaped_by_themselves(self):
        # Joined, p is 1 wide, but 9 at the end of a line of two or more, and 1 alone.
        self.check(NARROWING, "pppp", 12, "0-4")
        self.check(NARROWING, "pppp", 11, "0-3 3-4")
        self.check(NARROWING, "pppp", 10, "0-2 2-4")
        self.check(NARROWING, "pppp", 9, "0-1 1-2 2-3 3-4")
        self.check(NARROWING, "ppw", 1, "0-1 1-2 2-3")
        # Of two lines nothing is joined over the cut.
        self.check(NARROWING, "pwwpw", 11, "0-4 4-5")
        self.check(NARROWING, "pwwpw", 4, "0-3 3-4 4-5")
        self.check(NARROWING, "pwwpw", 3, "0-1 1-3 3-4 4-5")
        self.check(NARROWING, "pwpw", 11, "0-2 2-4")

    def test_rules_do_not_see_over_a_cut(self):
        text = "shape a 4\nshape x 1\nletter a none left a\ngap a\nfeature f on\nrule r f a / a / > x"
        self.check(text, "aaaa", 5, "0-2 2-4")
        self.check(text, "aaaa", 8, "0-2 2-4")
        self.check(text, "aaaa", 9, "0-3 3-4")
        text = text.replace("a / a /", "/ a / a")
        self.check(text, "aaaa", 5, "0-2 2-4")
        self.check(text, "aaaa", 7, "0-4")

    def test_settings_count_by_the_places_in_the_whole_row(self):
        self.check(SWITCHED, "aaaa", 10, "0-1 1-2 2-3 3-4")
        self.check(SWITCHED, "aaaa", 4, "0-4", [("f", 0, 3, True)])
        self.check(SWITCHED, "aaaa", 11, "0-1 1-3 3-4", [("f", 2, 2, True)])
        self.check(SWITCHED, "aaaaaa", 12, "0-1 1-4 4-5 5-6", [("f", 2, 3, True)])
        self.check(SWITCHED, "aaaaaa", 12, "0-1 1-2 2-3 3-6", [("f", 4, FAR, True)])
        self.check(SWITCHED, "aaaaaa", 12, "0-3 3-4 4-5 5-6", [("f", -FAR, 1, True)])
        self.check(SWITCHED, "aaaaaa", 12, "0-6", [("f", 0, 5, True), ("f", 3, 3, False), ("f", 3, 3, True)])
        self.check(SWITCHED, "aaaaaa", 12, "0-3 3-6", [("f", 0, 5, True), ("f", 2, 3, False)])

    def test_limits_of_many_figures(self):
        self.check(PLAIN, "agbga", FAR, "0-5")
        self.check(PLAIN, "agbga", -FAR, "0-2 2-4 4-5")

    def test_some_halls_against_the_plain_way(self):
        chance = chance_of(20)
        lines = 0
        for turn in range(250):
            hall = some_hall(chance, shapes=6, letters=5, marks=chance.randint(0, 2), most=(1, 2, 1, 3))
            letters = some_row(chance, hall, 12)
            settings = some_settings(chance, hall, last=12)
            for limit in (-1, 0, 3, 8, 13, 25, 60):
                told = cut_rows(hall, letters, settings, limit)
                self.assertEqual(told, plain_cut(hall, letters, settings, limit))
                lines += len(told) > 1
        self.assertGreater(lines, 300)

    def test_a_row_of_two_hundred_letters(self):
        self.check(PLAIN, "ag" * 100, 120, " ".join(f"{first}-{first + 20}" for first in range(0, 200, 20)))
        self.check(PLAIN, "g" * 200, 399, "0-199 199-200")

    def test_kinds_and_apart(self):
        told = cut_rows(read_hall(PLAIN), list("agb"), [], 3)
        self.assertEqual((type(told), {(type(line), len(line)) for line in told}), (list, {(tuple, 2)}))
        self.assertEqual({type(place) for line in told for place in line}, {int})
        for letters in ("", "a", "aaaa"):
            for settings in ([], [("f", 1, 2, True)]):
                check_apart(self, cut_rows, read_hall(SWITCHED), list(letters), settings, 11)


class RefusedTest(unittest.TestCase):
    def refused(self, error, letters, settings, limit=5):
        kept = (list(letters), list(settings))
        with self.assertRaises(error) as caught:
            cut_rows(read_hall(SWITCHED), letters, settings, limit)
        self.assertEqual((letters, settings), kept)
        self.assertIs(type(caught.exception), error)
        return caught.exception

    def test_a_letter_that_the_hall_lacks(self):
        for limit in (-1, 5, FAR):
            for letters, place in (("z", 0), ("az", 1), ("aaaz", 3), ("aazaz", 2), ("x", 0)):
                self.assertEqual(self.refused(NoLetter, list(letters), [], limit).place, place)
        self.assertEqual(self.refused(NoLetter, ["a"] * 199 + ["z"], []).place, 199)

    def test_a_feature_that_the_hall_lacks(self):
        for letters in ("", "a", "aaaa"):
            self.refused(NoFeature, list(letters), [("none", 0, 0, True)])
            self.refused(NoFeature, list(letters), [("f", 0, 0, True), ("none", 50, 60, False)])

    def test_the_letter_goes_first(self):
        self.assertEqual(self.refused(NoLetter, ["a", "z"], [("none", 0, 0, True)]).place, 1)
