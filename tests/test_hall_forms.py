import unittest

from glyphhall.halls import read_hall
from tests.helpers import SMALL_ROWS, fault_of, fields_of, last_fault

# One sound row of each form, to stand behind SMALL_ROWS.
SOUND = (
    "shape d 12",
    "mark a above 1 -2 3 -4",
    "point a below -5 6",
    "letter m back right a b",
    "gap l",
    "class m b a b",
    "feature g off",
    "rule r f a / @k b / c > a b",
)


class SoundFormsTest(unittest.TestCase):
    def after(self, row):
        return read_hall("\n".join(SMALL_ROWS + [row]))

    def test_each_form(self):
        self.assertEqual(self.after(SOUND[0]).shapes["d"], 12)
        self.assertEqual(self.after(SOUND[1]).marks, {"a": ("above", (1, -2), (3, -4))})
        self.assertEqual(self.after(SOUND[2]).points, {("a", "below"): (-5, 6)})
        self.assertEqual(self.after(SOUND[3]).letters["m"], ("back", "right", ("a", "b")))
        self.assertEqual(self.after(SOUND[4]).gaps, ["l"])
        self.assertEqual(self.after(SOUND[5]).classes["m"], ("b", "a", "b"))
        self.assertIs(self.after(SOUND[6]).features["g"], False)
        self.assertEqual(self.after(SOUND[7]).rules, [("r", "f", ("a",), ("@k", "b"), ("c",), ("a", "b"))])

    def test_blanks_between_ahead_and_behind(self):
        plain = fields_of(read_hall("\n".join(SMALL_ROWS + list(SOUND))))
        for ahead, between, behind in (("  ", " ", ""), ("", "   ", ""), ("", " ", "  "), ("   ", "  ", " ")):
            rows = [ahead + row.replace(" ", between) + behind for row in SMALL_ROWS + list(SOUND)]
            self.assertEqual(fields_of(read_hall("\n".join(rows))), plain)

    def test_rows_without_words_are_passed_over(self):
        rows = SMALL_ROWS + list(SOUND)
        plain = fields_of(read_hall("\n".join(rows)))
        for empty in ("", " ", "     "):
            text = empty + "\n" + f"\n{empty}\n{empty}\n".join(rows) + "\n" + empty + "\n"
            self.assertEqual(fields_of(read_hall(text)), plain)

    def test_rows_without_words_are_counted(self):
        self.assertEqual(fault_of("none"), (0, "row"))
        self.assertEqual(fault_of("\nnone"), (1, "row"))
        self.assertEqual(fault_of("\n   \n\n shape a 1 \n\n  none  \n"), (5, "row"))
        self.assertEqual(fault_of("shape a 1\n\n \nshape a 2"), (3, "twice"))

    def test_sides_joins_ways_and_switches(self):
        for side in ("above", "below"):
            self.assertEqual(self.after(f"mark b {side} 1 2 3 4").marks["b"][0], side)
            self.assertEqual(self.after(f"point b {side} 1 2").points, {("b", side): (1, 2)})
        for join, shapes in (("none", "a"), ("clear", "b"), ("back", "a a"), ("both", "c b a b")):
            for way in ("left", "right", "either"):
                letter = self.after(f"letter x {join} {way} {shapes}").letters["x"]
                self.assertEqual(letter, (join, way, tuple(shapes.split())))
        for word, value in (("on", True), ("off", False)):
            self.assertIs(self.after(f"feature x {word}").features["x"], value)

    def test_a_mark_may_have_points(self):
        hall = read_hall("shape a 1\nmark a above 1 2 3 4\npoint a above 5 6\npoint a below 7 8")
        self.assertEqual(hall.points, {("a", "above"): (5, 6), ("a", "below"): (7, 8)})


class FaultyFormsTest(unittest.TestCase):
    def refused(self, *rows):
        for row in rows:
            self.assertEqual(last_fault(row), "row", row)

    def test_sound_rows_are_read(self):
        for row in SOUND:
            self.assertIsNone(last_fault(row), row)

    def test_each_form_with_a_word_fewer(self):
        fixed = [row for row in SOUND if not row.startswith("class")]
        self.refused(*[row.rpartition(" ")[0] for row in fixed if not row.startswith("rule")])
        self.refused(*[row.split()[0] for row in SOUND])
        self.refused("shape d", "shape 12", "mark above 1 -2 3 -4", "mark a 1 -2 3 -4", "point below 1 2", "point a 1 2")
        self.refused("letter m back right", "letter m back", "letter m", "letter back right a b", "letter m right a b")
        self.refused("class m", "feature on", "feature g", "rule r", "rule r f", "rule f / a / > b")

    def test_each_form_with_a_word_more(self):
        self.refused("shape d 12 1", "shape d d 12", "mark a above 1 2 3 4 5", "point a below 1 2 3", "letter m back right a b c")
        self.refused("gap l l", "gap l on", "feature g off off", "feature g g off", "rule r f g a / b / > a /", "rule r f / a / > b >")

    def test_first_words_that_are_no_form(self):
        self.refused("Shape d 12", "shapes d 12", "SHAPE d 12", "row l", "tell", "d", "@k", "/", ">", "-", "shape: d 12", "# shape")
        self.refused("lettre m none left a", "rules r f / a / > b", "shaped 12")

    def test_sides_that_are_none(self):
        for side in ("Above", "over", "left", "on", "abov", "aboveb", "-"):
            self.refused(f"mark a {side} 1 2 3 4", f"point a {side} 1 2")

    def test_joins_and_ways_that_are_none(self):
        for join in ("Both", "front", "left", "all", "backs", "-"):
            for shapes in ("a", "a a", "a a a a"):
                self.refused(f"letter x {join} left {shapes}")
        for way in ("Left", "both", "up", "none", "eithe", "-"):
            self.refused(f"letter x none {way} a")

    def test_switches_that_are_none(self):
        for word in ("On", "OFF", "true", "1", "0", "yes", "onn", "of", "-"):
            self.refused(f"feature x {word}")

    def test_counts_of_shapes_of_letters(self):
        for join, right in (("none", 1), ("clear", 1), ("back", 2), ("both", 4)):
            for count in range(7):
                fault = last_fault(f"letter x {join} left" + " a" * count)
                self.assertEqual(fault, None if count == right else "row", (join, count))

    def test_counts_of_shapes_of_classes(self):
        for count in (1, 2, 19, 20):
            self.assertIsNone(last_fault("class x" + " a" * count), count)
        for count in (0, 21, 22, 100):
            self.assertEqual(last_fault("class x" + " a" * count), "row", count)

    def test_numbers_that_are_none(self):
        self.refused("shape d x", "mark a above 1 2 3 x", "mark a above x 2 3 4", "point a above x 1", "point a above 1 x")


class RuleFormTest(unittest.TestCase):
    def check(self, fault, *rows):
        for row in rows:
            self.assertEqual(last_fault(row), fault, row)

    def test_counts_of_items_and_told_shapes(self):
        for before in range(6):
            for core in range(7):
                for after in range(6):
                    for told in range(6):
                        row = "rule x f" + " a" * before + " /" + " @k" * core + " /" + " b" * after + " >" + " c" * told
                        sound = before <= 3 and 1 <= core <= 4 and after <= 3 and 1 <= told <= 3
                        self.check(None if sound else "row", row)

    def test_strokes(self):
        self.check("row", "rule x f a > b", "rule x f / a > b", "rule x f a / > b", "rule x f / a / a / > b")
        self.check("row", "rule x f / / a / > b", "rule x f / a / / > b", "rule x f / a / > / b", "rule x f / a / > b /")
        self.check("row", "rule x f / a // > b", "rule x f // a > b", "rule x f /a / > b", "rule x f / a/ > b")
        self.check("row", "rule x / f / a / > b", "rule / x f / a / > b")

    def test_the_sign_ahead_of_told_shapes(self):
        self.check("row", "rule x f / a /", "rule x f / a / b", "rule x f / a / >", "rule x f / a / > > b", "rule x f / a / > b > c")
        self.check("row", "rule x f > / a / b", "rule x f / a > / b", "rule x f > a / b / c", "rule x f / > a / > b")
        self.check("row", "rule x f / a />b", "rule x f / a / >b", "rule x f / a /> b", "rule x > f / a / b")

    def test_items(self):
        self.check(None, "rule x f a / b / c > a", "rule x f @k / @k / @k > a", "rule x f / @k a @k / > a")
        for bad in ("@", "@@k", "@k@", "k@", "@K", "@-", "@ k", "@abcdefghijklm", "A", "-1", "a,b"):
            self.check("row", f"rule x f {bad} / a / > b", f"rule x f / {bad} / > b", f"rule x f / a / {bad} > b")
            self.check("row", f"rule x f / a {bad} / > b", f"rule x f / {bad} a / > b", f"rule x f / a / > {bad}")

    def test_no_class_among_the_told_shapes(self):
        self.check("row", "rule x f / a / > @k", "rule x f / a / > a @k", "rule x f / a / > @k a", "rule x f / a / > a @k b")
