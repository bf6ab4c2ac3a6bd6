import unittest

from glyphhall.halls import Hall, read_hall
from glyphhall.halltext import hall_text
from tests.helpers import fields_of

MIXED = """
  feature zz off
shape tail 3
letter z none either tail

shape alef 10
point tail below 4 -5
mark tail above 1 2 -3 4
class up tail alef tail
letter a both right alef tail alef alef
gap z
feature aa on
point tail above 0 -99999
shape 0 0
rule r9 aa tail @up / @up alef / > 0 tail
letter m back left 0 alef
mark alef below -1 0 0 0
class 9 0
point alef below 7 8
rule r1 zz / 0 / @9 alef @up > alef
gap a
letter c clear left 0
"""

FIELDS = {
    "shapes": [("tail", 3), ("alef", 10), ("0", 0)],
    "marks": [("tail", ("above", (1, 2), (-3, 4))), ("alef", ("below", (-1, 0), (0, 0)))],
    "points": [(("tail", "below"), (4, -5)), (("tail", "above"), (0, -99999)), (("alef", "below"), (7, 8))],
    "letters": [
        ("z", ("none", "either", ("tail",))),
        ("a", ("both", "right", ("alef", "tail", "alef", "alef"))),
        ("m", ("back", "left", ("0", "alef"))),
        ("c", ("clear", "left", ("0",))),
    ],
    "gaps": ["z", "a"],
    "classes": [("up", ("tail", "alef", "tail")), ("9", ("0",))],
    "features": [("zz", False), ("aa", True)],
    "rules": [
        ("r9", "aa", ("tail", "@up"), ("@up", "alef"), (), ("0", "tail")),
        ("r1", "zz", (), ("0",), ("@9", "alef", "@up"), ("alef",)),
    ],
}

WRITTEN = """shape tail 3
shape alef 10
shape 0 0
mark tail above 1 2 -3 4
mark alef below -1 0 0 0
point tail below 4 -5
point tail above 0 -99999
point alef below 7 8
letter z none either tail
letter a both right alef tail alef alef
letter m back left 0 alef
letter c clear left 0
gap z
gap a
class up tail alef tail
class 9 0
feature zz off
feature aa on
rule r9 aa tail @up / @up alef / > 0 tail
rule r1 zz / 0 / @9 alef @up > alef"""


def full_text():
    """A hall with all sorts at their bounds, the names falling."""
    rows = [f"shape s{k} {k * 1000}" for k in range(59, -1, -1)]
    rows += [f"mark s{k} above {k} -{k + 1} 0 {k}" for k in range(59, 29, -1)]
    rows += [f"point s{k} {side} -99999 {k}" for k in range(20, -1, -1) for side in ("below", "above")]
    rows += [f"letter l{k} both either s{k} s1 s2 s{k}" for k in range(23, -1, -1)]
    rows += [f"gap l{k}" for k in range(23, 11, -1)]
    rows += [f"class c{k}" + f" s{k}" * 20 for k in range(19, -1, -1)]
    rows += [f"feature f{k} {'on' if k % 2 else 'off'}" for k in range(9, -1, -1)]
    rows += [f"rule r{k} f{k % 10} s1 @c2 s3 / s4 @c5 s6 @c7 / @c8 s9 s10 > s11 s12 s13" for k in range(29, -1, -1)]
    return "\n".join(rows)


def kinds_of(value):
    """The kinds of a value and of all that it holds."""
    if isinstance(value, dict):
        return (dict, [(kinds_of(key), kinds_of(held)) for key, held in value.items()])
    if isinstance(value, (list, tuple)):
        return (type(value), [kinds_of(held) for held in value])
    return type(value)


class FieldsTest(unittest.TestCase):
    def test_fields_in_the_order_of_their_rows(self):
        self.assertEqual(fields_of(read_hall(MIXED)), FIELDS)

    def test_kinds(self):
        hall = read_hall(MIXED)
        self.assertIsInstance(hall, Hall)
        pair = (tuple, [int, int])
        texts = (tuple, [str, str])
        self.assertEqual(kinds_of(hall.shapes), (dict, [(str, int)] * 3))
        self.assertEqual(kinds_of(hall.marks), (dict, [(str, (tuple, [str, pair, pair]))] * 2))
        self.assertEqual(kinds_of(hall.points), (dict, [(texts, pair)] * 3))
        counts = (1, 4, 2, 1)
        letters = [(str, (tuple, [str, str, (tuple, [str] * count)])) for count in counts]
        self.assertEqual(kinds_of(hall.letters), (dict, letters))
        self.assertEqual(kinds_of(hall.gaps), (list, [str, str]))
        self.assertEqual(kinds_of(hall.classes), (dict, [(str, (tuple, [str] * 3)), (str, (tuple, [str]))]))
        self.assertEqual(kinds_of(hall.features), (dict, [(str, bool)] * 2))
        parts = [[2, 2, 0, 2], [0, 1, 3, 1]]
        rules = [(tuple, [str, str] + [(tuple, [str] * count) for count in counts]) for counts in parts]
        self.assertEqual(kinds_of(hall.rules), (list, rules))

    def test_the_empty_hall(self):
        for text in ("", " ", "\n", "  \n\n   \n"):
            hall = read_hall(text)
            self.assertEqual([hall.shapes, hall.marks, hall.points, hall.letters], [{}, {}, {}, {}])
            self.assertEqual([hall.gaps, hall.classes, hall.features, hall.rules], [[], {}, {}, []])


class HallTextTest(unittest.TestCase):
    def test_rows_sort_by_sort(self):
        self.assertEqual(hall_text(read_hall(MIXED)), WRITTEN)

    def test_the_empty_hall(self):
        self.assertEqual(hall_text(read_hall("")), "")
        self.assertEqual(hall_text(read_hall("  \n\n ")), "")

    def test_one_row_of_each_sort(self):
        for text in ("shape a 5", "feature f on", "feature f off"):
            self.assertEqual(hall_text(read_hall(text)), text)
        for row in ("mark a above -1 0 1 -99999", "point a below 0 -1", "letter l none left a", "class k a a"):
            self.assertEqual(hall_text(read_hall("shape a 5\n" + row)), "shape a 5\n" + row)

    def test_rules_with_and_without_items_around(self):
        head = "shape a 5\nfeature f on\nrule r f "
        for tail in ("/ a / > a", "a / a / > a", "/ a / a > a", "a a a / a a a a / a a a > a a a"):
            self.assertEqual(hall_text(read_hall(head + tail)), head + tail)

    def test_read_again(self):
        for text in (MIXED, WRITTEN, full_text(), "", "shape a 1"):
            hall = read_hall(text)
            written = hall_text(hall)
            again = read_hall(written)
            self.assertEqual(fields_of(again), fields_of(hall))
            self.assertEqual(hall_text(again), written)

    def test_a_full_hall_in_the_order_of_sorts_is_written_as_it_stands(self):
        self.assertEqual(hall_text(read_hall(full_text())), full_text())

    def test_the_hall_stays_as_it_was(self):
        hall = read_hall(MIXED)
        kinds = kinds_of(vars(hall))
        first = hall_text(hall)
        self.assertEqual(fields_of(hall), FIELDS)
        self.assertEqual(kinds_of(vars(hall)), kinds)
        self.assertEqual(hall_text(hall), first)


class ApartTest(unittest.TestCase):
    def change_all(self, hall):
        for field in (hall.shapes, hall.marks, hall.points, hall.letters, hall.classes, hall.features):
            field.pop(next(iter(field)))
            field["new"] = "new"
        for field in (hall.gaps, hall.rules):
            field.pop()
            field.insert(0, "new")

    def test_two_halls_of_one_text_stand_apart(self):
        one = read_hall(MIXED)
        other = read_hall(MIXED)
        self.change_all(one)
        self.assertEqual(fields_of(other), FIELDS)
        self.assertEqual(hall_text(other), WRITTEN)
        self.assertEqual(fields_of(read_hall(MIXED)), FIELDS)
        self.assertEqual(hall_text(read_hall(MIXED)), WRITTEN)

    def test_halls_made_of_no_rows_stand_apart(self):
        one = read_hall("")
        for field in (one.shapes, one.marks, one.points, one.letters, one.classes, one.features):
            field["new"] = "new"
        one.gaps.append("new")
        one.rules.append("new")
        self.assertEqual(hall_text(read_hall("")), "")
        self.assertEqual(fields_of(read_hall(MIXED)), FIELDS)
