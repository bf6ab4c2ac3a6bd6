import itertools
import unittest

from glyphhall.errors import NoLetter
from glyphhall.halls import read_hall
from glyphhall.ways import seen_order, ways_of
from tests.helpers import cells_of, check_apart, letters_in
from tests.some_halls import chance_of

# Letters l, r and e of each way; b and d that join; clear ones v, x and y of each way.
LETTERS = """
shape s 1
letter l none left s
letter r none right s
letter e none either s
letter b back right s s
letter d both either s s s s
letter v clear either s
letter x clear left s
letter y clear right s
"""

# Bases a, b and c, marks m and n.
BASES = """
shape a 1
shape b 2
shape c 0
shape m 3
shape n 0
mark m above 0 0 0 0
mark n below 1 2 3 4
"""


def letters_hall():
    return read_hall(LETTERS)


def bases_hall():
    return read_hall(BASES)


def in_words(signs):
    return ["left" if sign == "l" else "right" for sign in signs]


def plain_ways(hall, letters, way):
    """The ways of letters just as point 16 is worded, each asked by itself."""
    def strong(place):
        join, own, shapes = hall.letters[letters[place]]
        return own if own != "either" and join != "clear" else None

    def told(place):
        if place < 0:
            return way
        if hall.letters[letters[place]][0] == "clear":
            return told(place - 1)
        if strong(place):
            return strong(place)
        ahead = [strong(other) for other in range(place) if strong(other)]
        behind = [strong(other) for other in range(place + 1, len(letters)) if strong(other)]
        return ahead[-1] if ahead and behind and ahead[-1] == behind[0] else way

    return [told(place) for place in range(len(letters))]


def plain_order(hall, cells, ways, way):
    """The order of the bases just as point 17 is worded."""
    def cell_way(place):
        letters = cells[place][1] or letters_in(cells[:place])[-1:]
        return ways[letters[0]]

    bases = [place for place, cell in enumerate(cells) if cell[0] not in hall.marks]
    runs = [(own, list(places)) for own, places in itertools.groupby(bases, cell_way)]
    turned = [places[::-1] if own == "right" else places for own, places in runs]
    return [place for places in (turned if way == "left" else turned[::-1]) for place in places]


class WaysTest(unittest.TestCase):
    def check(self, letters, left, right):
        """That the ways of the letters are so in a row of the way left, and in one of the way right."""
        self.assertEqual(ways_of(letters_hall(), list(letters), "left"), in_words(left), letters)
        self.assertEqual(ways_of(letters_hall(), list(letters), "right"), in_words(right), letters)

    def test_the_empty_row(self):
        self.check("", "", "")

    def test_left_and_right_are_their_own(self):
        self.check("l", "l", "l")
        self.check("r", "r", "r")
        self.check("lrrlb", "lrrlr", "lrrlr")

    def test_either_with_a_side_lacking(self):
        self.check("e", "l", "r")
        self.check("ee", "ll", "rr")
        self.check("el", "ll", "rl")
        self.check("le", "ll", "lr")
        self.check("er", "lr", "rr")
        self.check("re", "rl", "rr")
        self.check("dee", "lll", "rrr")

    def test_either_between_two_of_like_ways(self):
        self.check("lel", "lll", "lll")
        self.check("rer", "rrr", "rrr")
        self.check("reb", "rrr", "rrr")
        self.check("rdedr", "rrrrr", "rrrrr")
        self.check("leeel", "lllll", "lllll")

    def test_either_between_two_of_other_ways(self):
        self.check("ler", "llr", "lrr")
        self.check("rel", "rll", "rrl")
        self.check("reel", "rlll", "rrrl")

    def test_only_the_nearest_ones_count(self):
        self.check("rlelr", "rlllr", "rlllr")
        self.check("lrerl", "lrrrl", "lrrrl")
        self.check("rlerl", "rllrl", "rlrrl")
        self.check("lerel", "llrll", "lrrrl")
        self.check("eleree", "lllrll", "rlrrrr")

    def test_clear_at_the_rows_begin(self):
        for clear in "vxy":
            self.check(clear, "l", "r")
            self.check(clear + "l", "ll", "rl")
            self.check(clear + "r", "lr", "rr")
            self.check(clear * 3 + "r", "lllr", "rrrr")

    def test_clear_has_the_way_of_the_letter_ahead(self):
        for clear in "vxy":
            self.check("l" + clear, "ll", "ll")
            self.check("r" + clear, "rr", "rr")
            self.check("r" + clear + "l", "rrl", "rrl")
            self.check("l" + clear + "r", "llr", "llr")
            self.check("e" + clear, "ll", "rr")
            self.check("re" + clear + "r", "rrrr", "rrrr")
            self.check("re" + clear + "l", "rlll", "rrrl")

    def test_clear_behind_clear(self):
        for one, other in itertools.product("vxy", repeat=2):
            self.check("r" + one + other + "l", "rrrl", "rrrl")
            self.check("l" + one + other + "r", "lllr", "lllr")
            self.check(one + other, "ll", "rr")

    def test_clear_letters_are_passed_over_for_the_nearest_ones(self):
        for clear in "vxy":
            self.check("r" + clear + "e" + clear + "r", "rrrrr", "rrrrr")
            self.check("l" + clear + "e" + clear + "l", "lllll", "lllll")
            self.check("r" + clear + clear + "e" + "l", "rrrll", "rrrrl")
            self.check("e" + clear + "l", "lll", "rrl")
            self.check("r" + "e" + clear, "rll", "rrr")
            self.check(clear + "e" + "r", "llr", "rrr")
            self.check(clear + "e" + clear, "lll", "rrr")

    def test_all_short_rows_against_the_plain_way(self):
        hall = letters_hall()
        for count in range(6):
            for letters in itertools.product("lrevxy", repeat=count):
                for way in ("left", "right"):
                    told = ways_of(hall, list(letters), way)
                    self.assertEqual(told, plain_ways(hall, letters, way), (letters, way))

    def test_long_rows_against_the_plain_way(self):
        chance = chance_of(16)
        hall = letters_hall()
        for turn in range(30):
            letters = [chance.choice("lreeebdvxy") for number in range(200)]
            for way in ("left", "right"):
                self.assertEqual(ways_of(hall, letters, way), plain_ways(hall, letters, way))

    def test_a_letter_that_the_hall_lacks(self):
        for letters, place in (("z", 0), ("lz", 1), ("vez", 2), ("lzrz", 1), ("zz", 0), ("l" * 199 + "z", 199)):
            for way in ("left", "right"):
                with self.assertRaises(NoLetter) as caught:
                    ways_of(letters_hall(), list(letters), way)
                self.assertEqual(caught.exception.place, place)
        with self.assertRaises(NoLetter):
            ways_of(read_hall(""), ["l"], "left")
        with self.assertRaises(NoLetter):
            ways_of(read_hall("shape s 1"), ["s"], "left")

    def test_kinds_and_apart(self):
        told = ways_of(letters_hall(), list("lrev"), "left")
        self.assertEqual((type(told), {type(way) for way in told}), (list, {str}))
        for letters in ("", "l", "vxy", "lerev"):
            for way in ("left", "right"):
                check_apart(self, ways_of, letters_hall(), list(letters), way)


class SeenOrderTest(unittest.TestCase):
    def check(self, cells, ways, left, right):
        """That the order is so in a row of the way left, and in one of the way right; ways are signs l and r."""
        hall = bases_hall()
        self.assertEqual(seen_order(hall, cells_of(cells), in_words(ways), "left"), left, cells)
        self.assertEqual(seen_order(hall, cells_of(cells), in_words(ways), "right"), right, cells)

    def test_the_empty_row(self):
        self.check("", "", [], [])

    def test_one_run(self):
        self.check("a:0", "l", [0], [0])
        self.check("a:0", "r", [0], [0])
        self.check("a:0 b:1 c:2", "lll", [0, 1, 2], [0, 1, 2])
        self.check("a:0 b:1 c:2", "rrr", [2, 1, 0], [2, 1, 0])

    def test_runs_of_one(self):
        self.check("a:0 b:1", "lr", [0, 1], [1, 0])
        self.check("a:0 b:1", "rl", [0, 1], [1, 0])
        self.check("a:0 b:1 c:2 a:3", "lrlr", [0, 1, 2, 3], [3, 2, 1, 0])

    def test_runs_of_many(self):
        self.check("a:0 b:1 c:2 a:3 b:4", "llrrr", [0, 1, 4, 3, 2], [4, 3, 2, 0, 1])
        self.check("a:0 b:1 c:2 a:3 b:4", "rrlll", [1, 0, 2, 3, 4], [2, 3, 4, 1, 0])
        self.check("a:0 b:1 c:2 a:3 b:4 a:5", "llrrll", [0, 1, 3, 2, 4, 5], [4, 5, 3, 2, 0, 1])

    def test_marks_are_left_out(self):
        self.check("a:0 m:1 b:2", "lll", [0, 2], [0, 2])
        self.check("m:0 a:1 n:2 b:3 m:4", "rrrrr", [3, 1], [3, 1])

    def test_marks_do_not_part_a_run(self):
        self.check("a:0 m:1 b:2", "rlr", [2, 0], [2, 0])
        self.check("a:0 m:1 b:2", "lrl", [0, 2], [0, 2])
        self.check("a:0 n:1 m:2 b:3 c:4", "rllrl", [3, 0, 4], [4, 3, 0])

    def test_rows_of_marks_alone(self):
        self.check("m:0", "l", [], [])
        self.check("m:0 n:1 m:2", "lrl", [], [])

    def test_cells_without_letters_go_by_their_home(self):
        self.check("a:0 b c:1", "rl", [1, 0, 2], [2, 1, 0])
        self.check("a:0 b c:1", "lr", [0, 1, 2], [2, 0, 1])
        self.check("a:0 b c a:1 b", "rr", [4, 3, 2, 1, 0], [4, 3, 2, 1, 0])

    def test_the_home_is_the_first_letter_of_a_cell_and_the_last_one_ahead_of_one_without(self):
        self.check("a:0,1 b:2", "rlr", [1, 0], [1, 0])
        self.check("a:0,1 b:2", "lrl", [0, 1], [0, 1])
        self.check("a:0,1 b c:2", "lrr", [0, 2, 1], [2, 1, 0])
        self.check("a:0,1 b c:2", "rll", [0, 1, 2], [1, 2, 0])

    def test_the_home_of_a_base_may_be_a_letter_of_a_mark(self):
        self.check("a:0 m:1 b c:2", "lrr", [0, 3, 2], [3, 2, 0])
        self.check("m:0 b c:1", "rr", [2, 1], [2, 1])
        self.check("a:0 m:1,2 b", "lrl", [0, 2], [0, 2])

    def test_shapes_with_points_and_marks_in_classes_are_no_marks_for_that(self):
        hall = read_hall("shape a 1\nshape b 1\npoint a above 1 2\nclass k a b")
        self.assertEqual(seen_order(hall, cells_of("a:0 b:1"), ["right", "right"], "left"), [1, 0])

    def test_all_short_rows_against_the_plain_way(self):
        hall = bases_hall()
        for count in range(1, 6):
            for shapes in itertools.product("abm", repeat=count):
                cells = [(shape, (place,)) for place, shape in enumerate(shapes)]
                for signs in itertools.product("lr", repeat=count):
                    for way in ("left", "right"):
                        ways = in_words(signs)
                        self.assertEqual(seen_order(hall, cells, ways, way), plain_order(hall, cells, ways, way))

    def test_cells_of_many_letters_against_the_plain_way(self):
        chance = chance_of(17)
        hall = bases_hall()
        for turn in range(400):
            cells = [("a", (0,))]
            count = 1
            for number in range(chance.randrange(20)):
                size = chance.choice((0, 0, 1, 1, 2, 3))
                cells.append((chance.choice("abcmn"), tuple(range(count, count + size))))
                count += size
            ways = [chance.choice(("left", "right")) for number in range(count)]
            for way in ("left", "right"):
                told = seen_order(hall, cells, ways, way)
                self.assertEqual(told, plain_order(hall, cells, ways, way))
                self.assertEqual(sorted(told), [place for place, cell in enumerate(cells) if cell[0] in "abc"])

    def test_kinds_and_apart(self):
        told = seen_order(bases_hall(), cells_of("a:0 b c:1"), ["left", "right"], "left")
        self.assertEqual((type(told), {type(place) for place in told}), (list, {int}))
        for cells, signs in (("", ""), ("m:0", "l"), ("a:0 m b:1 c:2,3", "lrrl"), ("a:0 b:1", "rr")):
            for way in ("left", "right"):
                check_apart(self, seen_order, bases_hall(), cells_of(cells), in_words(signs), way)
