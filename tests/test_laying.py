import itertools
import unittest

from glyphhall.halls import read_hall
from glyphhall.laying import laid, width_of
from glyphhall.shaping import shaped
from glyphhall.ways import ways_of
from tests.helpers import cells_of, check_apart
from tests.some_halls import chance_of, some_hall, some_row, some_settings
from tests.test_ways import in_words, plain_order

# Bases a (points on both sides), b (one point) and c (none, of the width 0); marks u and t above, d and e below.
LAYING = """
shape a 10
shape b 7
shape c 0
shape u 3
shape t 0
shape d 5
shape e 0
mark u above 2 1 3 6
mark t above -1 -2 4 5
mark d below 1 0 2 -3
mark e below 0 4 -5 -6
point a above 5 20
point a below 4 -8
point b above -3 9
point u above 100 100
point u below 100 100
"""


def laying():
    return read_hall(LAYING)


def plain_laid(hall, cells, ways, way):
    """The places just as point 18 is worded, each asked by itself."""
    order = plain_order(hall, cells, ways, way)
    places = []
    for at, (shape, letters) in enumerate(cells):
        if shape not in hall.marks:
            places.append((sum(hall.shapes[cells[other][0]] for other in order[:order.index(at)]), 0))
            continue
        side, own, after = hall.marks[shape]
        bases = [other for other in range(at) if cells[other][0] not in hall.marks]
        base = bases[-1] if bases else -1
        between = [other for other in range(base + 1, at) if hall.marks[cells[other][0]][0] == side]
        if between:
            ground, point = places[between[-1]], hall.marks[cells[between[-1]][0]][2]
        elif bases:
            ground, point = places[base], hall.points.get((cells[base][0], side), (0, 0))
        else:
            ground, point = (0, 0), (0, 0)
        places.append((ground[0] + point[0] - own[0], ground[1] + point[1] - own[1]))
    return places


class LaidTest(unittest.TestCase):
    def check(self, cells, ways, way, *places):
        hall = laying()
        given = cells_of(cells)
        self.assertEqual(laid(hall, given, in_words(ways), way), list(places), (cells, ways, way))
        self.assertEqual(plain_laid(hall, given, in_words(ways), way), list(places), (cells, ways, way))

    def test_the_empty_row(self):
        self.check("", "", "left")
        self.check("", "", "right")

    def test_bases_from_the_left(self):
        self.check("a:0", "l", "left", (0, 0))
        self.check("a:0 b:1 a:2", "lll", "left", (0, 0), (10, 0), (17, 0))
        self.check("a:0 b:1 a:2", "lll", "right", (0, 0), (10, 0), (17, 0))

    def test_bases_from_the_right(self):
        self.check("a:0", "r", "right", (0, 0))
        self.check("a:0 b:1 a:2", "rrr", "right", (17, 0), (10, 0), (0, 0))
        self.check("a:0 b:1 a:2", "rrr", "left", (17, 0), (10, 0), (0, 0))

    def test_bases_of_both_ways(self):
        self.check("a:0 b:1 a:2 b:3", "lrrl", "left", (0, 0), (20, 0), (10, 0), (27, 0))
        self.check("a:0 b:1 a:2 b:3", "lrrl", "right", (24, 0), (17, 0), (7, 0), (0, 0))
        self.check("a:0 a:1 b:2", "llr", "right", (7, 0), (17, 0), (0, 0))

    def test_widths_of_nought(self):
        self.check("c:0 a:1 c:2 b:3 c:4", "lllll", "left", (0, 0), (0, 0), (10, 0), (10, 0), (17, 0))
        self.check("c:0 a:1 c:2 b:3 c:4", "rrrrr", "left", (17, 0), (7, 0), (7, 0), (0, 0), (0, 0))
        self.check("c:0 c:1", "ll", "left", (0, 0), (0, 0))

    def test_cells_without_letters(self):
        self.check("a:0 b a:1", "rl", "left", (7, 0), (0, 0), (17, 0))
        self.check("a:0 b a:1", "lr", "right", (10, 0), (20, 0), (0, 0))

    def test_a_mark_on_a_told_point(self):
        self.check("a:0 u:1", "ll", "left", (0, 0), (3, 19))
        self.check("a:0 d:1", "ll", "left", (0, 0), (3, -8))
        self.check("a:0 e", "l", "left", (0, 0), (4, -12))
        self.check("b:0 t:1", "ll", "left", (0, 0), (-2, 11))

    def test_a_mark_where_no_point_is_told(self):
        self.check("b:0 d:1", "ll", "left", (0, 0), (-1, 0))
        self.check("c:0 u:1", "ll", "left", (0, 0), (-2, -1))
        self.check("a:0 c:1 t:2", "lll", "left", (0, 0), (10, 0), (11, 2))

    def test_a_marks_width_does_not_move_the_bases(self):
        self.check("a:0 u:1 b:2 d:3 a:4", "lllll", "left", (0, 0), (3, 19), (10, 0), (9, 0), (17, 0))

    def test_a_mark_goes_by_the_base_where_it_is_laid(self):
        self.check("a:0 u:1 b:2", "rrr", "left", (7, 0), (10, 19), (0, 0))
        self.check("a:0 u:1 b:2", "rrr", "right", (7, 0), (10, 19), (0, 0))
        self.check("a:0 b:1 u:2 a:3 d:4", "lrrrr", "right", (17, 0), (10, 0), (5, 8), (0, 0), (3, -8))
        self.check("a:0 b:1 u:2", "llr", "right", (0, 0), (10, 0), (5, 8))

    def test_stacks_of_one_side(self):
        # From (3, 19) the next point of u leads to (6, 25).
        self.check("a:0 u:1 u:2", "lll", "left", (0, 0), (3, 19), (4, 24))
        self.check("a:0 u:1 t:2", "lll", "left", (0, 0), (3, 19), (7, 27))
        self.check("a:0 u:1 t:2 u:3", "llll", "left", (0, 0), (3, 19), (7, 27), (9, 31))
        self.check("a:0 d:1 e:2 d:3", "llll", "left", (0, 0), (3, -8), (5, -15), (-1, -21))

    def test_stacks_of_both_sides_mixed(self):
        self.check("a:0 u:1 d:2 u:3 d:4", "lllll", "left", (0, 0), (3, 19), (3, -8), (4, 24), (4, -11))
        self.check("a:0 d:1 u:2 e:3 t:4 u:5", "llllll", "left", (0, 0), (3, -8), (3, 19), (5, -15), (7, 27), (9, 31))

    def test_a_base_begins_new_stacks(self):
        self.check("a:0 u:1 a:2 u:3 u:4", "lllll", "left", (0, 0), (3, 19), (10, 0), (13, 19), (14, 24))
        self.check("a:0 u:1 d:2 b:3 d:4 u:5", "llllll", "left", (0, 0), (3, 19), (3, -8), (10, 0), (9, 0), (5, 8))

    def test_stacks_behind_a_base_that_is_turned_about(self):
        self.check("a:0 u:1 t:2 b:3 a:4 d:5", "rrrrrr", "left", (17, 0), (20, 19), (24, 27), (10, 0), (0, 0), (3, -8))

    def test_marks_ahead_of_all_bases(self):
        self.check("u:0", "l", "left", (-2, -1))
        self.check("u:0", "r", "right", (-2, -1))
        self.check("d:0 a:1", "ll", "left", (-1, 0), (0, 0))
        self.check("e:0 a:1 b:2", "rrr", "right", (0, -4), (7, 0), (0, 0))

    def test_stacks_ahead_of_all_bases(self):
        self.check("u:0 u:1 t:2 a:3", "llll", "left", (-2, -1), (-1, 4), (3, 12), (0, 0))
        self.check("u:0 d:1 u:2 e:3 d:4 a:5 u:6", "lllllll", "left", (-2, -1), (-1, 0), (-1, 4), (1, -7), (-5, -13), (0, 0), (3, 19))

    def test_the_points_of_a_marks_own_shape_do_not_count(self):
        hall = laying()
        self.assertIn(("u", "above"), hall.points)
        self.check("b:0 u:1 u:2", "lll", "left", (0, 0), (-5, 8), (-4, 13))

    def test_numbers_of_five_figures(self):
        hall = read_hall("shape a 99999\nshape m 0\nmark m above -99999 99999 -99999 99999\npoint a above 99999 -99999")
        cells = cells_of("a:0 a:1 m:2 m:3")
        places = [(0, 0), (99999, 0), (299997, -199998), (299997, -199998)]
        self.assertEqual(laid(hall, cells, ["left"] * 4, "left"), places)

    def test_all_short_rows_against_the_plain_way(self):
        hall = laying()
        for count in range(1, 5):
            for shapes in itertools.product("abutd", repeat=count):
                cells = [(shape, (place,)) for place, shape in enumerate(shapes)]
                for signs in ("llll", "rrrr", "lrrl", "rlrl"):
                    ways = in_words(signs[:count])
                    for way in ("left", "right"):
                        self.assertEqual(laid(hall, cells, ways, way), plain_laid(hall, cells, ways, way), (shapes, signs))

    def test_shaped_rows_against_the_plain_way(self):
        chance = chance_of(18)
        for turn in range(200):
            hall = some_hall(chance, shapes=8, letters=5, marks=chance.randint(0, 8), most=(1, 2, 1, 3))
            letters = some_row(chance, hall, 12)
            cells = shaped(hall, letters, some_settings(chance, hall))[0]
            for way in ("left", "right"):
                others = [chance.choice(("left", "right")) for letter in letters]
                for ways in (ways_of(hall, letters, way), others):
                    self.assertEqual(laid(hall, cells, ways, way), plain_laid(hall, cells, ways, way))

    def test_kinds_and_apart(self):
        told = laid(laying(), cells_of("a:0 u d"), ["left"], "left")
        self.assertEqual((type(told), {(type(place), len(place)) for place in told}), (list, {(tuple, 2)}))
        self.assertEqual({type(number) for place in told for number in place}, {int})
        for cells, signs in (("", ""), ("u:0 d:1", "lr"), ("a:0 u:1 u b:2", "lrr"), ("a:0 b:1", "rl")):
            for way in ("left", "right"):
                check_apart(self, laid, laying(), cells_of(cells), in_words(signs), way)


class WidthTest(unittest.TestCase):
    def check(self, cells, width):
        told = width_of(laying(), cells_of(cells))
        self.assertEqual((told, type(told)), (width, int), cells)

    def test_no_cells(self):
        self.check("", 0)

    def test_the_sum_of_the_widths_of_the_bases(self):
        self.check("a:0", 10)
        self.check("a:0 b:1 c:2 a:3", 27)
        self.check("c:0", 0)

    def test_marks_do_not_count(self):
        self.check("u:0 d:1", 0)
        self.check("a:0 u:1 d b:2 t", 17)

    def test_cells_of_many_letters_and_of_none_count_once(self):
        self.check("a:0,1,2 b c b:3", 24)

    def test_long_rows(self):
        hall = read_hall("shape a 99999\nshape m 9\nmark m below 0 0 0 0")
        self.assertEqual(width_of(hall, [("a", (place,)) for place in range(200)] + [("m", ())]), 19999800)

    def test_what_is_handed_in_stays_as_it_was(self):
        for cells in ("", "a:0 u b:1"):
            check_apart(self, width_of, laying(), cells_of(cells))
