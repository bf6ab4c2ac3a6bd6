import itertools
import random
import unittest

from glyphhall.errors import NoFeature
from glyphhall.halls import read_hall
from glyphhall.rules import done, fits
from tests.helpers import cells_of, check_apart, letters_in, row_of

HALL_TEXT = """
shape a 1
shape b 1
shape c 1
shape d 1
shape x 1
shape y 1
shape z 1
letter la none left a
class k a b
class a c d
class all a b c d x y z
feature f on
feature g off
feature h on
rule own f / a / > x
"""


def hall():
    return read_hall(HALL_TEXT)


def rule_of(text, feature="f"):
    """A rule's tuple from "before / core / after > told"."""
    items, told = text.split(">")
    before, core, after = [tuple(part.split()) for part in items.split("/")]
    return ("title", feature, before, core, after, tuple(told.split()))


def plain_done(some_hall, rule, cells, settings):
    """A rule done just as point 9 is worded: in the row itself, all asked anew at each place."""
    feature, before, core, after, told = rule[1:]
    row = list(cells)
    place = 0
    count = 0

    def fitting(item, at):
        if not 0 <= at < len(row):
            return False
        return row[at][0] in some_hall.classes[item[1:]] if item[0] == "@" else row[at][0] == item

    def home(at):
        return row[at][1][0] if row[at][1] else letters_in(row[:at])[-1]

    def on(letter):
        words = [word for name, first, last, word in settings if name == feature and first <= letter <= last]
        return words[-1] if words else some_hall.features[feature]

    while place < len(row):
        start = place - len(before)
        items = before + core + after
        whole = all(fitting(item, start + number) for number, item in enumerate(items))
        if whole and all(on(home(at)) for at in range(place, place + len(core))):
            letters = tuple(letters_in(row[place:place + len(core)]))
            row[place:place + len(core)] = [(told[0], letters)] + [(shape, ()) for shape in told[1:]]
            place += len(told)
            count += 1
        else:
            place += 1
    return row, count


class FitsTest(unittest.TestCase):
    def test_a_shapes_name(self):
        for item, shape in itertools.product("abcdxyz", repeat=2):
            self.assertIs(fits(hall(), item, shape), item == shape)

    def test_a_class(self):
        for shape in "abcdxyz":
            self.assertIs(fits(hall(), "@k", shape), shape in "ab")
            self.assertIs(fits(hall(), "@all", shape), True)

    def test_a_shape_and_a_class_of_one_name(self):
        self.assertIs(fits(hall(), "a", "a"), True)
        self.assertIs(fits(hall(), "a", "c"), False)
        self.assertIs(fits(hall(), "@a", "a"), False)
        self.assertIs(fits(hall(), "@a", "c"), True)
        self.assertIs(fits(hall(), "@a", "d"), True)

    def test_a_class_of_one_shape_and_of_its_own_name(self):
        own = read_hall("shape s 1\nshape t 1\nclass s s s")
        self.assertIs(fits(own, "@s", "s"), True)
        self.assertIs(fits(own, "@s", "t"), False)

    def test_parts_of_names_do_not_fit(self):
        own = read_hall("shape ab 1\nshape a 1\nshape b 1\nclass k ab")
        for shape in ("a", "b"):
            self.assertIs(fits(own, "ab", shape), False)
            self.assertIs(fits(own, "@k", shape), False)

    def test_the_empty_text_fits_none(self):
        for item in ("a", "@k", "@all"):
            self.assertIs(fits(hall(), item, ""), False)

    def test_the_hall_stays_as_it_was(self):
        def asked(some_hall, item, shape):
            return [fits(some_hall, item, shape)]
        for item in ("a", "@a", "@k"):
            check_apart(self, asked, hall(), item, "a")


class DoneTest(unittest.TestCase):
    def check(self, rule, cells, told, count, settings=(), feature="f"):
        """That a rule makes the told cells; cells are texts, those without colons of a first row."""
        given = cells_of(cells) if ":" in cells else row_of(cells)
        self.assertEqual(done(hall(), rule_of(rule, feature), given, list(settings)), (cells_of(told), count), (rule, cells))

    def test_the_empty_row(self):
        self.check("/ a / > x", "", "", 0)
        self.check("a / @k / b > x y z", "", "", 0)

    def test_where_it_does_not_fit(self):
        self.check("/ a / > x", "b c d", "b:0 c:1 d:2", 0)
        self.check("/ a b / > x", "a c b a", "a:0 c:1 b:2 a:3", 0)

    def test_cores_of_one_to_four_items(self):
        self.check("/ a / > x", "b a b a", "b:0 x:1 b:2 x:3", 2)
        self.check("/ a b / > x", "b a b a", "b:0 x:1,2 a:3", 1)
        self.check("/ a b c / > x", "a b a b c", "a:0 b:1 x:2,3,4", 1)
        self.check("/ a b c d / > x", "a b c d a b c d", "x:0,1,2,3 x:4,5,6,7", 2)
        self.check("/ a b c d / > x", "a b c", "a:0 b:1 c:2", 0)

    def test_told_shapes_of_one_to_three(self):
        self.check("/ a / > x", "a b", "x:0 b:1", 1)
        self.check("/ a / > x y", "a b", "x:0 y b:1", 1)
        self.check("/ a / > x y z", "a b", "x:0 y z b:1", 1)
        self.check("/ a b / > x y z", "a b c", "x:0,1 y z c:2", 1)
        self.check("/ a b c d / > x y", "d a b c d a", "d:0 x:1,2,3,4 y a:5", 1)
        self.check("/ a / > a", "a b a", "a:0 b:1 a:2", 2)

    def test_before(self):
        self.check("b / a / > x", "a b a", "a:0 b:1 x:2", 1)
        self.check("c b / a / > x", "b a c b a b c a", "b:0 a:1 c:2 b:3 x:4 b:5 c:6 a:7", 1)
        self.check("d c b / a / > x", "c b a d c b a", "c:0 b:1 a:2 d:3 c:4 b:5 x:6", 1)

    def test_after(self):
        self.check("/ a / b > x", "a b a", "x:0 b:1 a:2", 1)
        self.check("/ a / b c > x", "a b c a c b a b", "x:0 b:1 c:2 a:3 c:4 b:5 a:6 b:7", 1)
        self.check("/ a / b c d > x", "a b c d a b c", "x:0 b:1 c:2 d:3 a:4 b:5 c:6", 1)

    def test_before_and_after(self):
        self.check("b / a / c > x", "b a c a c b a", "b:0 x:1 c:2 a:3 c:4 b:5 a:6", 1)
        self.check("d @k c / @a b / @k d a > x y", "d b c c b a d a", "d:0 b:1 c:2 x:3,4 y a:5 d:6 a:7", 1)

    def test_over_an_end_of_the_row(self):
        self.check("b / a / > x", "a b", "a:0 b:1", 0)
        self.check("b b / a / > x", "b a", "b:0 a:1", 0)
        self.check("b b b / a / > x", "b b a", "b:0 b:1 a:2", 0)
        self.check("/ a / b > x", "b a", "b:0 a:1", 0)
        self.check("/ a / b b > x", "a b", "a:0 b:1", 0)
        self.check("/ a / b b b > x", "a b b", "a:0 b:1 b:2", 0)
        self.check("@all / @all / > x", "a", "a:0", 0)
        self.check("/ @all / @all > x", "a", "a:0", 0)
        self.check("/ @all @all / > x", "a", "a:0", 0)

    def test_the_last_before_item_is_the_nearest(self):
        self.check("b c / a / > x", "b c a", "b:0 c:1 x:2", 1)
        self.check("b c / a / > x", "c b a", "c:0 b:1 a:2", 0)

    def test_classes_among_the_items(self):
        self.check("@k / @a / @k > x", "a c b d a", "a:0 x:1 b:2 x:3 a:4", 2)
        self.check("/ @k @k / > x", "a b c b a", "x:0,1 c:2 x:3,4", 2)

    def test_a_told_shape_is_not_taken_again(self):
        self.check("/ a / > a a", "a a", "a:0 a a:1 a", 2)
        self.check("/ a b / > a b", "a b b", "a:0,1 b b:2", 1)
        self.check("/ a a / > a", "a a a", "a:0,1 a:2", 1)
        self.check("/ a / > b a", "a a", "b:0 a b:1 a", 2)

    def test_a_told_shape_stands_before_a_later_place(self):
        self.check("x / a / > x", "x a a a", "x:0 x:1 x:2 x:3", 3)
        self.check("a / a / > b", "a a a a", "a:0 b:1 a:2 b:3", 2)
        self.check("y / @k / > x y", "y a b c a", "y:0 x:1 y x:2 y c:3 a:4", 2)
        self.check("x y z / a / > x y z", "x y z a a", "x:0 y:1 z:2 x:3 y z x:4 y z", 2)
        self.check("b / b / > x", "b b b", "b:0 x:1 b:2", 1)

    def test_taken_shapes_do_not_stand_before_a_later_place(self):
        self.check("a / @k / > x", "a a b", "a:0 x:1 b:2", 1)

    def test_what_stands_after_is_not_yet_changed(self):
        self.check("/ a / a > x", "a a a", "x:0 x:1 a:2", 2)
        self.check("/ a / x > x", "a a x", "a:0 x:1 x:2", 1)

    def test_overlapping_places(self):
        self.check("/ a a / > x", "a a a a a", "x:0,1 x:2,3 a:4", 2)
        self.check("/ a b a / > x", "a b a b a", "x:0,1,2 b:3 a:4", 1)
        self.check("/ a b a / > x", "a b a b a b a", "x:0,1,2 b:3 x:4,5,6", 2)
        self.check("/ a a b / > x", "a a a b", "a:0 x:1,2,3", 1)

    def test_letters_all_in_the_first_told_cell(self):
        self.check("/ x a / > y z", "x:0,1 a:2,3,4 b:5", "y:0,1,2,3,4 z b:5", 1)
        self.check("/ a b c / > x y z", "a:0,1 b:2 c:3", "x:0,1,2,3 y z", 1)

    def test_a_core_with_cells_without_letters(self):
        self.check("/ y a / > z", "x:0 y a:1", "x:0 z:1", 1)
        self.check("/ y y / > z a", "x:0,1 y y b:2", "x:0,1 z a b:2", 1)
        self.check("/ x y y a / > z", "x:0 y y a:1,2 y", "z:0,1,2 y", 1)
        self.check("/ y / > y y y", "x:0 y", "x:0 y y y", 1)

    def test_a_rule_that_makes_the_row_grow_often(self):
        cells = row_of("a " * 200)
        told, count = done(hall(), rule_of("/ a / > x y z"), cells, [])
        self.assertEqual((len(told), count), (600, 200))
        self.assertEqual(letters_in(told), list(range(200)))

    def test_the_feature_that_is_off(self):
        self.check("/ a / > x", "a b a", "a:0 b:1 a:2", 0, feature="g")
        self.check("/ a / > x", "a b a", "x:0 b:1 a:2", 1, [("g", 0, 1, True)], "g")

    def test_on_at_some_homes_of_the_core_and_off_at_others(self):
        for place in range(3):
            self.check("/ a b c / > x", "a b c", "a:0 b:1 c:2", 0, [("f", place, place, False)])
            self.check("/ a b c / > x", "a b c", "a:0 b:1 c:2", 0, [("g", place, place, True)], "g")
        self.check("/ a b c / > x", "a b c", "x:0,1,2", 1, [("g", 0, 2, True)], "g")
        self.check("/ a a / > x", "a a a a", "a:0 x:1,2 a:3", 1, [("f", 0, 0, False)])

    def test_off_before_and_after_the_core_does_not_matter(self):
        self.check("b / a / c > x", "b a c", "b:0 x:1 c:2", 1, [("f", 0, 0, False), ("f", 2, 2, False)])
        self.check("b / a / c > x", "b a c", "b:0 x:1 c:2", 1, [("g", 1, 1, True)], "g")

    def test_only_the_first_letter_of_a_cell_is_its_home(self):
        self.check("/ x / > y", "x:0,1,2 a:3", "y:0,1,2 a:3", 1, [("f", 1, 3, False)])
        self.check("/ x / > y", "x:0,1,2 a:3", "x:0,1,2 a:3", 0, [("f", 0, 0, False)])

    def test_the_home_of_a_cell_without_letters(self):
        cells = "x:0,1,2 y z y a:3"
        self.check("/ y / > b", cells, "x:0,1,2 b z b a:3", 2, [("f", 0, 1, False), ("f", 3, 3, False)])
        self.check("/ y / > b", cells, cells, 0, [("f", 2, 2, False)])
        self.check("/ x y / > b", cells, cells, 0, [("f", 2, 2, False)])
        self.check("/ y a / > b", cells, "x:0,1,2 y z b:3", 1, [("f", 0, 1, False)])
        self.check("/ y a / > b", cells, cells, 0, [("f", 2, 2, False)])

    def test_homes_behind_cells_that_were_taken(self):
        self.check("/ @k / > x y", "a:0,1 b b:2", "x:0,1 y x y x:2 y", 3)
        self.check("/ @k / > x y", "a:0,1 b b:2", "x:0,1 y b x:2 y", 2, [("f", 1, 1, False)])

    def test_a_rule_that_is_not_the_halls(self):
        own = read_hall("shape a 1\nshape x 1\nfeature f on")
        self.assertEqual(own.rules, [])
        self.assertEqual(done(own, rule_of("/ a / > x"), row_of("a a"), []), (cells_of("x:0 x:1"), 2))

    def test_a_rule_of_the_halls(self):
        own = hall()
        self.assertEqual(done(own, own.rules[0], row_of("a b"), []), (cells_of("x:0 b:1"), 1))

    def test_against_the_plain_way(self):
        chance = random.Random(9)
        items = ("a", "b", "@k", "@k", "@a", "@all", "@all", "x")
        own = hall()
        fired = 0
        for sizes in itertools.product(range(4), range(1, 5), range(4), range(1, 4)):
            for turn in range(20):
                parts = [tuple(chance.choice(items) for number in range(size)) for size in sizes[:3]]
                told = tuple(chance.choice("abx") for number in range(sizes[3]))
                rule = ("t", chance.choice("fg")) + tuple(parts) + (told,)
                cells = self.some_cells(chance)
                settings = [self.some_setting(chance) for number in range(chance.randrange(4))]
                expected = plain_done(own, rule, cells, settings)
                self.assertEqual(done(own, rule, cells, settings), expected, (rule, cells, settings))
                self.assertEqual(letters_in(expected[0]), letters_in(cells))
                fired += expected[1] > 0
        self.assertGreater(fired, 200)

    def some_cells(self, chance):
        cells = [(chance.choice("abx"), (0,))]
        letter = 1
        for number in range(chance.randrange(16)):
            count = chance.choice((0, 1, 1, 2))
            cells.append((chance.choice("aabbx"), tuple(range(letter, letter + count))))
            letter += count
        return cells

    def some_setting(self, chance):
        first = chance.randrange(-2, 12)
        return (chance.choice("fgh"), first, first + chance.randrange(-1, 9), chance.choice((True, True, False)))

    def test_kinds(self):
        told = done(hall(), rule_of("/ a / > x y"), row_of("a b"), [])
        self.assertEqual((type(told), len(told)), (tuple, 2))
        self.assertEqual((type(told[0]), type(told[1])), (list, int))
        for cell in told[0]:
            self.assertEqual((type(cell), len(cell), type(cell[0]), type(cell[1])), (tuple, 2, str, tuple))

    def test_apart(self):
        for text in ("/ a / > x y", "/ d / > x", "a / b / > z"):
            for settings in ([], [("f", 0, 1, False), ("g", 1, 2, True)]):
                check_apart(self, done, hall(), rule_of(text), row_of("a b c a"), settings)
        check_apart(self, done, hall(), rule_of("/ a / > x"), [], [])


class NoFeatureTest(unittest.TestCase):
    def test_a_feature_that_the_hall_lacks(self):
        for cells in ("", "a b a", "c"):
            for place in range(3):
                settings = [("f", 0, 1, True), ("g", 0, 1, False), ("h", 0, 1, True)]
                settings[place] = ("none", 0, 1, True)
                with self.assertRaises(NoFeature):
                    done(hall(), rule_of("/ a / > x"), row_of(cells), settings)
