import itertools
import random
import unittest

from glyphhall.errors import NoFeature, NoLetter
from glyphhall.faces import faces_of
from glyphhall.halls import read_hall
from glyphhall.shaping import changed, shaped
from tests.helpers import cells_of, check_apart, letters_in
from tests.test_rules import plain_done

# A writing with a joined pair, a mark that splits off, and a rule that looks at what an earlier one made.
WRITING = """
shape alef 5
shape alefend 5
shape lam 6
shape lamfirst 6
shape lammid 6
shape lamend 6
shape lamalef 9
shape dotted 4
shape dot 0
shape low 0
shape stop 2
letter a back right alef alefend
letter l both right lam lamfirst lammid lamend
letter i none left dotted
letter s none either stop
letter v clear right dot
class lams lamfirst lammid
class dots dot low
feature liga on
feature split on
feature lower off
rule joined liga / @lams alefend / > lamalef
rule parted split / dotted / > stop dot
rule lowered lower lamalef / @dots / > low
rule doubled liga / lamalef / stop > lamalef low
"""

# Letters p, q, r and s tell from one to three cells, of which only the first has a letter.
GROWING = """
shape p 1
shape q 1
shape r 1
shape s 1
shape x 1
shape t 1
letter p none left p
letter q none left q
letter r none left r
letter s none left s
feature f on
rule one f / p / > x
rule two f / q / > x t
rule three f / r / > x t t
rule pairs f / s s / > x t
"""


def writing():
    return read_hall(WRITING)


def growing():
    return read_hall(GROWING)


def rule_hall(*rules):
    """A hall with letters a, b and c, each of the one shape of its name, and shapes x, y and z."""
    rows = [f"shape {name} 1" for name in "abcxyz"] + [f"letter {name} none left {name}" for name in "abc"]
    rows += ["class ab a b", "feature f on", "feature g off"]
    return read_hall("\n".join(rows + [f"rule r{number} {rule}" for number, rule in enumerate(rules)]))


def plain_shaped(hall, letters, settings):
    cells = [(shape, (place,)) for place, shape in enumerate(faces_of(hall, letters))]
    counts = []
    for rule in hall.rules:
        cells, count = plain_done(hall, rule, cells, settings)
        counts.append(count)
    return cells, counts


def plain_alike(old, new):
    """The counts ahead and behind, found by trying all of them."""
    least = min(len(old), len(new))
    ahead = max(count for count in range(least + 1) if old[:count] == new[:count])
    left, other = old[ahead:], new[ahead:]
    counts = range(min(len(left), len(other)) + 1)
    return ahead, max(count for count in counts if left[len(left) - count:] == other[len(other) - count:])


class ShapedTest(unittest.TestCase):
    def check(self, hall, letters, told, counts, settings=()):
        self.assertEqual(shaped(hall, list(letters), list(settings)), (cells_of(told), counts), letters)

    def test_the_empty_row(self):
        self.check(writing(), "", "", [0, 0, 0, 0])
        self.check(rule_hall(), "", "", [])
        self.check(read_hall(""), "", "", [])

    def test_a_hall_without_rules(self):
        self.check(rule_hall(), "abca", "a:0 b:1 c:2 a:3", [])

    def test_from_the_faces_on(self):
        self.check(writing(), "a", "alef:0", [0, 0, 0, 0])
        self.check(writing(), "ll", "lamfirst:0 lamend:1", [0, 0, 0, 0])
        self.check(writing(), "la", "lamalef:0,1", [1, 0, 0, 0])
        self.check(writing(), "lala", "lamalef:0,1 lamalef:2,3", [2, 0, 0, 0])
        self.check(writing(), "lla", "lamfirst:0 lamalef:1,2", [1, 0, 0, 0])
        self.check(writing(), "lva", "lamfirst:0 dot:1 alefend:2", [0, 0, 0, 0])
        self.check(writing(), "alsa", "alef:0 lam:1 stop:2 alef:3", [0, 0, 0, 0])

    def test_rules_over_what_earlier_ones_made(self):
        self.check(writing(), "lai", "lamalef:0,1 low stop:2 dot", [1, 1, 0, 1])
        self.check(writing(), "las", "lamalef:0,1 low stop:2", [1, 0, 0, 1])
        self.check(writing(), "lav", "lamalef:0,1 low:2", [1, 0, 1, 0], [("lower", 2, 2, True)])
        self.check(writing(), "lav", "lamalef:0,1 dot:2", [1, 0, 0, 0], [("lower", 0, 1, True)])
        self.check(writing(), "lai", "lamalef:0,1 dotted:2", [1, 0, 0, 0], [("split", 2, 2, False)])
        self.check(writing(), "las", "lamfirst:0 alefend:1 stop:2", [0, 0, 0, 0], [("liga", 1, 1, False)])

    def test_rules_in_the_order_of_their_rows(self):
        self.check(rule_hall("f / a / > x", "f / x / > y", "f / y / > z"), "aba", "z:0 b:1 z:2", [2, 2, 2])
        self.check(rule_hall("f / y / > z", "f / x / > y", "f / a / > x"), "aba", "x:0 b:1 x:2", [0, 0, 2])
        self.check(rule_hall("f / a b / > x", "f / @ab / > y"), "aabb", "y:0 x:1,2 y:3", [1, 2])
        self.check(rule_hall("f / @ab / > y", "f / a b / > x"), "aabb", "y:0 y:1 y:2 y:3", [4, 0])

    def test_each_rule_is_done_over_the_whole_row_once(self):
        self.check(rule_hall("f / a / > a a"), "aa", "a:0 a a:1 a", [2])
        self.check(rule_hall("f / a / > a a", "f / a / > a a"), "aa", "a:0 a a a a:1 a a a", [2, 4])
        self.check(rule_hall("f / a a / > a", "f / a a / > a"), "aaaaa", "a:0,1,2,3 a:4", [2, 1])

    def test_counts_of_rules_that_were_not_done(self):
        self.check(rule_hall("f / a / > x", "f / z / > y", "g / b / > y", "f / c / > z"), "abc", "x:0 b:1 z:2", [1, 0, 0, 1])

    def test_letterless_cells_have_a_home(self):
        hall = rule_hall("f / a b / > x y", "g / y / > z")
        self.check(hall, "abc", "x:0,1 z c:2", [1, 1], [("g", 1, 1, True)])
        self.check(hall, "abc", "x:0,1 y c:2", [1, 0], [("g", 0, 0, True), ("g", 2, 2, True)])

    def test_two_hundred_letters(self):
        cells, counts = shaped(writing(), ["l", "a"] * 100, [])
        self.assertEqual(cells, [("lamalef", (place, place + 1)) for place in range(0, 200, 2)])
        self.assertEqual(counts, [100, 0, 0, 0])

    def test_against_the_plain_way_with_all_letters_in_order(self):
        hall = writing()
        settings = [("lower", 1, 3, True), ("liga", 3, 3, False), ("split", 0, 0, False)]
        for length in range(5):
            for row in itertools.product("alisv", repeat=length):
                for given in ([], settings):
                    told = shaped(hall, list(row), given)
                    self.assertEqual(told, plain_shaped(hall, list(row), given), row)
                    self.assertEqual(letters_in(told[0]), list(range(length)), row)

    def test_many_rules_against_the_plain_way(self):
        chance = random.Random(4)
        signs = "aabbcxyz"
        for turn in range(60):
            rules = []
            for number in range(30):
                parts = [" ".join(chance.choices(signs, k=chance.randrange(low, high))) for low, high in ((0, 2), (1, 3), (0, 2))]
                told = " ".join(chance.choices(signs, k=chance.randrange(1, 3)))
                rules.append(f"{chance.choice('fffg')} {parts[0]} / {parts[1]} / {parts[2]} > {told}")
            hall = rule_hall(*rules)
            row = chance.choices("abc", k=20)
            settings = [(chance.choice("fg"), chance.randrange(20), chance.randrange(20), chance.random() < 0.7) for number in range(3)]
            told = shaped(hall, row, settings)
            self.assertEqual(told, plain_shaped(hall, row, settings))
            self.assertEqual(letters_in(told[0]), list(range(20)))

    def test_no_letter(self):
        for row, place in ((["x"], 0), (["l", "lam", "x"], 1), (["l", "a", ""], 2)):
            with self.assertRaises(NoLetter) as caught:
                shaped(writing(), row, [])
            self.assertEqual(caught.exception.place, place)

    def test_kinds(self):
        told = shaped(writing(), ["l", "a", "i"], [])
        self.assertEqual((type(told), len(told)), (tuple, 2))
        self.assertEqual((type(told[0]), type(told[1])), (list, list))
        self.assertEqual({(type(cell), type(cell[0]), type(cell[1])) for cell in told[0]}, {(tuple, str, tuple)})
        self.assertEqual({type(count) for count in told[1]}, {int})

    def test_apart(self):
        for row in ("", "a", "lai", "lvlas"):
            for settings in ([], [("liga", 0, 1, False), ("lower", 1, 2, True)]):
                check_apart(self, shaped, writing(), list(row), settings)
        check_apart(self, shaped, rule_hall(), ["a", "b"], [])


class ChangedTest(unittest.TestCase):
    def check(self, hall, letters, place, letter, told, ahead, behind, settings=()):
        answer = changed(hall, list(letters), list(settings), place, letter)
        self.assertEqual(answer, (cells_of(told), ahead, behind), (letters, place, letter))

    def test_at_the_first_a_middle_and_the_last_place(self):
        self.check(rule_hall(), "aaaa", 0, "b", "b:0 a:1 a:2 a:3", 0, 3)
        self.check(rule_hall(), "aaaa", 2, "b", "a:0 a:1 b:2 a:3", 2, 1)
        self.check(rule_hall(), "aaaa", 3, "b", "a:0 a:1 a:2 b:3", 3, 0)
        self.check(rule_hall(), "a", 0, "b", "b:0", 0, 0)

    def test_the_same_letter_again(self):
        self.check(rule_hall(), "abc", 1, "b", "a:0 b:1 c:2", 3, 0)
        self.check(writing(), "lai", 0, "l", "lamalef:0,1 low stop:2 dot", 4, 0)
        self.check(growing(), "rr", 1, "r", "x:0 t t x:1 t t", 6, 0)

    def test_another_letter_of_the_same_cells(self):
        hall = read_hall("shape a 1\nletter p none left a\nletter q clear right a")
        self.check(hall, "ppp", 1, "q", "a:0 a:1 a:2", 3, 0)

    def test_faces_round_the_place(self):
        self.check(writing(), "llll", 1, "s", "lam:0 stop:1 lamfirst:2 lamend:3", 0, 1)
        self.check(writing(), "slal", 2, "l", "stop:0 lamfirst:1 lammid:2 lamend:3", 1, 0)
        self.check(writing(), "slls", 2, "a", "stop:0 lamalef:1,2 low stop:3", 1, 1)

    def test_rows_that_grow_or_shrink(self):
        self.check(growing(), "pqp", 1, "r", "x:0 x:1 t t x:2", 3, 1)
        self.check(growing(), "prp", 1, "q", "x:0 x:1 t x:2", 3, 1)
        self.check(growing(), "prp", 1, "p", "x:0 x:1 x:2", 2, 1)
        self.check(growing(), "psp", 2, "s", "x:0 x:1,2 t", 1, 0)
        self.check(growing(), "psspp", 1, "p", "x:0 x:1 s:2 x:3 x:4", 1, 2)

    def test_ahead_and_behind_never_overlap(self):
        self.check(growing(), "q", 0, "r", "x:0 t t", 2, 0)
        self.check(growing(), "r", 0, "q", "x:0 t", 2, 0)
        self.check(growing(), "r", 0, "p", "x:0", 1, 0)
        self.check(growing(), "pq", 1, "r", "x:0 x:1 t t", 3, 0)
        self.check(growing(), "rq", 0, "q", "x:0 t x:1 t", 2, 2)
        self.check(growing(), "qq", 0, "r", "x:0 t t x:1 t", 2, 2)

    def test_the_settings_count_for_both_rows(self):
        hall = rule_hall("f / a / > x", "g / b / > y y")
        self.check(hall, "aba", 0, "b", "b:0 y:1 y a:2", 0, 3, [("f", 2, 2, False), ("g", 1, 1, True)])
        self.check(hall, "aaa", 1, "b", "x:0 y:1 y x:2", 1, 1, [("g", 0, 5, True)])

    def test_two_hundred_letters(self):
        cells, ahead, behind = changed(rule_hall(), ["a"] * 200, [], 120, "c")
        self.assertEqual((len(cells), cells[120], ahead, behind), (200, ("c", (120,)), 120, 79))

    def test_against_the_plain_way(self):
        for hall, signs in ((growing(), "pqrs"), (writing(), "alis")):
            for row in itertools.product(signs, repeat=3):
                old = shaped(hall, list(row), [])[0]
                for place, letter in itertools.product(range(3), signs):
                    new = shaped(hall, [letter if at == place else name for at, name in enumerate(row)], [])[0]
                    told = changed(hall, list(row), [], place, letter)
                    self.assertEqual(told, (new,) + plain_alike(old, new), (row, place, letter))

    def refused(self, letters, settings, place, letter):
        with self.assertRaises(NoLetter) as caught:
            changed(rule_hall(), list(letters), settings, place, letter)
        return caught.exception.place

    def test_no_letter_of_the_old_row_goes_first(self):
        lacking = [("none", 0, 0, True)]
        for settings in ([], lacking):
            self.assertEqual(self.refused("aqb", settings, 0, "z"), 1)
            self.assertEqual(self.refused("aqb", settings, 2, "z"), 1)
            self.assertEqual(self.refused("aqb", settings, 0, "b"), 1)
            self.assertEqual(self.refused("aqqb", settings, 3, "b"), 1)

    def test_the_letter_that_is_taken_out_must_be_the_halls_too(self):
        for settings in ([], [("none", 0, 0, True)]):
            self.assertEqual(self.refused("aqb", settings, 1, "b"), 1)
            self.assertEqual(self.refused("aqq", settings, 1, "b"), 1)

    def test_then_the_new_letter_with_its_place(self):
        for settings in ([], [("none", 0, 0, True)]):
            for place in range(3):
                for letter in ("z", "", "x", "ab"):
                    self.assertEqual(self.refused("abc", settings, place, letter), place)

    def test_then_no_feature(self):
        for place in range(3):
            with self.assertRaises(NoFeature):
                changed(rule_hall(), ["a", "b", "c"], [("f", 0, 0, True), ("none", 3, 2, True)], place, "b")

    def test_kinds(self):
        told = changed(writing(), ["l", "a"], [], 1, "l")
        self.assertEqual((type(told), [type(part) for part in told]), (tuple, [list, int, int]))
        self.assertEqual({(type(cell), type(cell[0]), type(cell[1])) for cell in told[0]}, {(tuple, str, tuple)})

    def test_apart(self):
        for place, letter in itertools.product(range(3), "alis"):
            check_apart(self, changed, writing(), ["l", "a", "i"], [("lower", 0, 2, True)], place, letter)

    def test_what_is_refused_stays_as_it_was(self):
        for letter, settings in (("z", []), ("a", [("none", 0, 0, True)])):
            letters = ["a", "b"]
            kept = list(settings)
            with self.assertRaises((NoLetter, NoFeature)):
                changed(rule_hall(), letters, settings, 1, letter)
            self.assertEqual((letters, settings), (["a", "b"], kept))
