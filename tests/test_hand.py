import unittest

from glyphhall.halls import read_hall
from glyphhall.hand import letter_at, spans_of
from glyphhall.shaping import shaped
from glyphhall.ways import ways_of
from tests.helpers import cells_of, check_apart, letters_in
from tests.some_halls import chance_of, some_hall, some_row, some_settings
from tests.test_laying import plain_laid
from tests.test_ways import in_words

# Bases of the widths 10, 7, 1 and 0; marks above and below.
HAND = """
shape ten 10
shape seven 7
shape one 1
shape nil 0
shape up 5
shape low 0
mark up above 12 1 3 6
mark low below -4 0 2 -3
point ten above 5 20
"""

FAR = 10 ** 25


def hand():
    return read_hall(HAND)


def plain_spans(hall, cells, ways, way):
    """The spans just as point 19 is worded, from letters to pairs."""
    spans = {}
    for (shape, letters), (x, y) in zip(cells, plain_laid(hall, cells, ways, way)):
        w, m = hall.shapes[shape], len(letters)
        for k, letter in enumerate(letters):
            if shape in hall.marks:
                spans[letter] = (x, x)
            elif ways[letters[0]] == "left":
                spans[letter] = (x + w * k // m, x + w * (k + 1) // m)
            else:
                spans[letter] = (x + w - w * (k + 1) // m, x + w - w * k // m)
    return [spans[letter] for letter in sorted(spans)]


class SpansTest(unittest.TestCase):
    def check(self, cells, ways, way, *spans):
        hall = hand()
        given = cells_of(cells)
        self.assertEqual(spans_of(hall, given, in_words(ways), way), list(spans), (cells, ways, way))
        self.assertEqual(plain_spans(hall, given, in_words(ways), way), list(spans), (cells, ways, way))

    def test_no_letters(self):
        self.check("", "", "left")
        self.check("", "", "right")

    def test_cells_of_one_letter(self):
        self.check("ten:0", "l", "left", (0, 10))
        self.check("ten:0", "r", "right", (0, 10))
        self.check("ten:0 seven:1", "ll", "left", (0, 10), (10, 17))
        self.check("ten:0 seven:1", "rr", "left", (7, 17), (0, 7))
        self.check("ten:0 seven:1", "lr", "right", (7, 17), (0, 7))

    def test_cells_of_two_letters(self):
        self.check("seven:0,1", "ll", "left", (0, 3), (3, 7))
        self.check("seven:0,1", "rr", "left", (4, 7), (0, 4))
        self.check("ten:0,1", "ll", "left", (0, 5), (5, 10))
        self.check("ten:0,1", "rr", "right", (5, 10), (0, 5))

    def test_cells_of_three_letters(self):
        self.check("ten:0,1,2", "lll", "left", (0, 3), (3, 6), (6, 10))
        self.check("ten:0,1,2", "rrr", "left", (7, 10), (4, 7), (0, 4))
        self.check("seven:0,1,2", "lll", "left", (0, 2), (2, 4), (4, 7))
        self.check("seven:0,1,2", "rrr", "right", (5, 7), (3, 5), (0, 3))

    def test_cells_of_many_letters(self):
        self.check("seven:0,1,2,3,4", "lllll", "left", (0, 1), (1, 2), (2, 4), (4, 5), (5, 7))
        self.check("seven:0,1,2,3,4", "rrrrr", "left", (6, 7), (5, 6), (3, 5), (2, 3), (0, 2))

    def test_widths_of_nought_and_one(self):
        self.check("nil:0", "l", "left", (0, 0))
        self.check("ten:0 nil:1,2 one:3", "llll", "left", (0, 10), (10, 10), (10, 10), (10, 11))
        self.check("one:0,1", "ll", "left", (0, 0), (0, 1))
        self.check("one:0,1", "rr", "left", (1, 1), (0, 1))
        self.check("one:0,1,2", "lll", "left", (0, 0), (0, 0), (0, 1))
        self.check("one:0,1,2", "rrr", "left", (1, 1), (1, 1), (0, 1))

    def test_cells_that_do_not_begin_at_nought(self):
        self.check("seven:0 ten:1,2,3", "llll", "left", (0, 7), (7, 10), (10, 13), (13, 17))
        self.check("ten:0,1,2 seven:3", "rrrr", "left", (14, 17), (11, 14), (7, 11), (0, 7))
        self.check("one:0 seven:1,2 one:3", "lrrl", "left", (0, 1), (5, 8), (1, 5), (8, 9))

    def test_a_cells_way_is_that_of_its_home(self):
        self.check("seven:0,1", "lr", "left", (0, 3), (3, 7))
        self.check("seven:0,1", "rl", "left", (4, 7), (0, 4))
        self.check("ten:0,1,2", "rll", "right", (7, 10), (4, 7), (0, 4))
        self.check("ten:0,1,2", "lrr", "right", (0, 3), (3, 6), (6, 10))

    def test_letters_of_marks(self):
        self.check("ten:0 up:1", "ll", "left", (0, 10), (-7, -7))
        self.check("ten:0 low:1,2", "lll", "left", (0, 10), (4, 4), (4, 4))
        self.check("seven:0 ten:1 up:2", "lll", "left", (0, 7), (7, 17), (0, 0))
        self.check("ten:0 up:1 seven:2", "rrr", "right", (7, 17), (0, 0), (0, 7))
        self.check("up:0 low:1,2,3", "llll", "left", (-12, -12), (4, 4), (4, 4), (4, 4))
        self.check("up:0,1 up:2", "rrr", "right", (-12, -12), (-12, -12), (-21, -21))

    def test_cells_without_letters(self):
        self.check("ten:0 seven up one:1", "ll", "left", (0, 10), (17, 18))
        self.check("ten:0 seven one:1", "rr", "left", (8, 18), (0, 1))
        self.check("seven:0 low nil", "l", "left", (0, 7))

    def test_numbers_of_five_figures(self):
        hall = read_hall("shape a 99999")
        self.assertEqual(spans_of(hall, [("a", (0, 1))], ["left"] * 2, "left"), [(0, 49999), (49999, 99999)])
        self.assertEqual(spans_of(hall, [("a", (0, 1))], ["right"] * 2, "left"), [(50000, 99999), (0, 50000)])

    def test_shaped_rows_against_the_plain_way(self):
        chance = chance_of(19)
        for turn in range(300):
            hall = some_hall(chance, shapes=8, letters=5, marks=chance.randint(0, 4), most=(1, 3, 1, 2))
            letters = some_row(chance, hall, 12)
            cells = shaped(hall, letters, some_settings(chance, hall))[0]
            for way in ("left", "right"):
                others = [chance.choice(("left", "right")) for letter in letters]
                for ways in (ways_of(hall, letters, way), others):
                    told = spans_of(hall, cells, ways, way)
                    self.assertEqual(told, plain_spans(hall, cells, ways, way))
                    self.assertEqual(len(told), len(letters))

    def test_kinds_and_apart(self):
        told = spans_of(hand(), cells_of("ten:0 up:1 low"), ["left", "left"], "left")
        self.assertEqual((type(told), {(type(span), len(span)) for span in told}), (list, {(tuple, 2)}))
        self.assertEqual({type(number) for span in told for number in span}, {int})
        for cells, signs in (("", ""), ("up:0 low:1", "lr"), ("ten:0,1 up:2 up seven:3", "lrrr")):
            for way in ("left", "right"):
                check_apart(self, spans_of, hand(), cells_of(cells), in_words(signs), way)


class LetterAtTest(unittest.TestCase):
    def check(self, cells, ways, way, letters):
        """That from each x to the next one named the letter is the one told, and none ahead of the first one."""
        hall = hand()
        given = cells_of(cells)
        starts = sorted(letters)
        for x in list(range(-30, 60)) + [-FAR, FAR, -FAR - 1, FAR + 1]:
            ahead = [start for start in starts if start <= x]
            expected = letters[ahead[-1]] if ahead else None
            told = letter_at(hall, given, in_words(ways), way, x)
            self.assertEqual((told, type(told)), (expected, type(expected)), (cells, x))

    def test_no_letters(self):
        self.check("", "", "left", {0: None})

    def test_cells_of_one_letter(self):
        self.check("ten:0", "l", "left", {0: 0, 10: None})
        self.check("ten:0 seven:1", "ll", "left", {0: 0, 10: 1, 17: None})
        self.check("ten:0 seven:1", "rr", "left", {0: 1, 7: 0, 17: None})

    def test_cells_of_many_letters(self):
        self.check("ten:0,1,2", "lll", "left", {0: 0, 3: 1, 6: 2, 10: None})
        self.check("ten:0,1,2", "rrr", "left", {0: 2, 4: 1, 7: 0, 10: None})

    def test_where_a_cell_has_no_letters(self):
        self.check("ten:0 seven one:1", "ll", "left", {0: 0, 10: None, 17: 1, 18: None})
        self.check("ten:0 seven one:1", "rr", "left", {0: 1, 1: None, 8: 0, 18: None})

    def test_a_letter_whose_span_has_no_x(self):
        self.check("nil:0", "l", "left", {0: None})
        self.check("nil:0 ten:1 nil:2", "lll", "left", {0: 1, 10: None})
        self.check("one:0,1", "ll", "left", {0: 1, 1: None})
        self.check("one:0,1,2", "rrr", "left", {0: 2, 1: None})

    def test_letters_of_marks(self):
        self.check("up:0 low:1", "ll", "left", {0: None})
        self.check("ten:0 up:1 low:2 seven:3", "llll", "left", {0: 0, 10: 3, 17: None})

    def test_each_end_of_each_span(self):
        chance = chance_of(20)
        found = 0
        for turn in range(200):
            hall = some_hall(chance, shapes=8, letters=5, marks=chance.randint(0, 3), most=(1, 3, 1, 2))
            letters = some_row(chance, hall, 10)
            cells = shaped(hall, letters, [])[0]
            way = chance.choice(("left", "right"))
            ways = ways_of(hall, letters, way)
            spans = plain_spans(hall, cells, ways, way)
            for edge in {number for span in spans for number in span} | {0, FAR, -FAR}:
                for x in (edge - 1, edge, edge + 1):
                    there = [place for place, span in enumerate(spans) if span[0] <= x < span[1]]
                    self.assertLessEqual(len(there), 1)
                    self.assertEqual(letter_at(hall, cells, ways, way, x), there[0] if there else None)
                    found += len(there)
        self.assertGreater(found, 500)

    def test_all_letters_of_the_bases_fill_the_width(self):
        cells = cells_of("ten:0,1,2 seven:3,4 one:5 up:6 ten:7")
        for signs in ("llllllll", "rrrrrrrr", "lllrrrrr", "rrrlllrr"):
            told = [letter_at(hand(), cells, in_words(signs), "left", x) for x in range(-1, 29)]
            self.assertEqual((told[0], told[-1]), (None, None))
            self.assertEqual(sorted(set(told[1:-1])), [place for place in letters_in(cells) if place != 6])

    def test_what_is_handed_in_stays_as_it_was(self):
        for x in (-1, 0, 12, FAR):
            check_apart(self, letter_at, hand(), cells_of("ten:0,1 up:2 up seven:3"), in_words("lrrr"), "right", x)
