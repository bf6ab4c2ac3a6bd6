import unittest

from glyphhall.halls import read_hall
from tests.helpers import SMALL_ROWS, fault_of, last_fault

# For each bounded sort the most there may be, and how the row of the k-th one is written.
BOUNDED = (
    ("shape", 60, "shape n{} 1"),
    ("letter", 24, "letter n{} none left a"),
    ("class", 20, "class n{} a"),
    ("feature", 10, "feature n{} on"),
    ("rule", 30, "rule n{} f / a / > b"),
)
HAD = {"shape": 3, "letter": 1, "class": 1, "feature": 1, "rule": 0}


def full_rows(sort, most, form):
    """Sound rows that tell just as many of a sort as there may be, and the row of one more."""
    wanted = most - HAD[sort]
    return SMALL_ROWS + [form.format(k) for k in range(wanted)], form.format(wanted)


class TwiceTest(unittest.TestCase):
    def test_names_told_already(self):
        for row in ("shape a 5", "shape a 6", "letter l none left a", "letter l both right a b c a", "class k a b", "class k c"):
            self.assertEqual(last_fault(row), "twice", row)
        for row in ("feature f on", "feature f off"):
            self.assertEqual(last_fault(row), "twice", row)

    def test_rule_told_already(self):
        for first in range(3):
            rows = SMALL_ROWS + [f"rule r{k} f / a / > b" for k in range(3)]
            self.assertEqual(last_fault(f"rule r{first} f c / b / > a", rows), "twice")

    def test_mark_already(self):
        rows = SMALL_ROWS + ["mark a above 1 2 3 4"]
        for row in ("mark a above 1 2 3 4", "mark a below 5 6 7 8"):
            self.assertEqual(last_fault(row, rows), "twice", row)
        self.assertIsNone(last_fault("mark b above 1 2 3 4", rows))

    def test_point_already_of_this_shape_and_side(self):
        rows = SMALL_ROWS + ["point a above 1 2"]
        for row in ("point a above 1 2", "point a above 3 4"):
            self.assertEqual(last_fault(row, rows), "twice", row)
        for row in ("point a below 1 2", "point b above 1 2"):
            self.assertIsNone(last_fault(row, rows), row)

    def test_gap_already(self):
        rows = SMALL_ROWS + ["gap l", "letter m none left a"]
        self.assertEqual(last_fault("gap l", rows), "twice")
        self.assertIsNone(last_fault("gap m", rows))

    def test_one_name_of_several_sorts(self):
        rows = [
            "shape x 1", "letter x none left x", "class x x", "feature x on", "rule x x x / @x / x > x", "gap x",
            "mark x above 1 2 3 4", "point x above 1 2",
        ]
        hall = read_hall("\n".join(rows))
        for field in (hall.shapes, hall.letters, hall.classes, hall.features, hall.gaps, hall.marks):
            self.assertEqual(list(field), ["x"])
        self.assertEqual(hall.rules, [("x", "x", ("x",), ("@x",), ("x",), ("x",))])
        for sort in ("shape x 2", "letter x none left x", "class x x", "feature x on", "rule x x / x / > x"):
            self.assertEqual(last_fault(sort, rows), "twice", sort)


class NameTest(unittest.TestCase):
    def test_names_that_no_row_tells(self):
        for row in (
            "mark x above 1 2 3 4", "point x above 1 2", "letter m none left x", "letter m back left a x", "letter m back left x a",
            "letter m both left a b c x", "letter m both left x b c a", "letter m clear left x", "gap x", "class m x", "class m a x",
            "class m x a", "rule r x / a / > b", "rule r f x / a / > b", "rule r f / x / > b", "rule r f / a / x > b",
            "rule r f / a / > x", "rule r f / a x / > b", "rule r f / a / > b x", "rule r f @x / a / > b", "rule r f / @x / > b",
            "rule r f / a / @x > b", "rule r f / a b c x / > b", "rule r f / a b c @x / > b", "rule r f a b x / a / > b",
        ):
            self.assertEqual(last_fault(row), "name", row)

    def test_names_of_other_sorts_do_not_count(self):
        for row in (
            "mark l above 1 2 3 4", "mark k above 1 2 3 4", "point f above 1 2", "letter m none left l", "letter m none left k",
            "gap a", "gap k", "class m l", "class m k", "class m f", "rule r a / a / > b", "rule r k / a / > b", "rule r f / k / > b",
            "rule r f / l / > b", "rule r f / @a / > b", "rule r f / @l / > b", "rule r f / a / > k", "rule r f / a / > l",
        ):
            self.assertEqual(last_fault(row), "name", row)

    def test_names_that_a_later_row_tells(self):
        later = ["shape x 1", "letter x none left a", "class x a", "feature x on"]
        for row in (
            "mark x above 1 2 3 4", "point x above 1 2", "letter m none left x", "gap x", "class m x", "rule r x / a / > b",
            "rule r f / x / > b", "rule r f / @x / > b", "rule r f / a / > x",
        ):
            self.assertEqual(fault_of("\n".join(SMALL_ROWS + [row] + later)), (len(SMALL_ROWS), "name"), row)
            self.assertIsNone(last_fault(row, SMALL_ROWS + later), row)


class ManyTest(unittest.TestCase):
    def test_the_last_and_one_more(self):
        for sort, most, form in BOUNDED:
            rows, more = full_rows(sort, most, form)
            self.assertIsNone(fault_of("\n".join(rows)), sort)
            self.assertEqual(last_fault(more, rows), "many", sort)

    def test_all_sorts_full_at_once(self):
        rows = list(SMALL_ROWS)
        for sort, most, form in BOUNDED:
            rows = rows + full_rows(sort, most, form)[0][len(SMALL_ROWS):]
        hall = read_hall("\n".join(rows))
        self.assertEqual((len(hall.shapes), len(hall.letters), len(hall.classes)), (60, 24, 20))
        self.assertEqual((len(hall.features), len(hall.rules)), (10, 30))
        for sort, most, form in BOUNDED:
            self.assertEqual(last_fault(form.format("x"), rows), "many", sort)

    def test_marks_points_and_gaps_are_not_bounded(self):
        rows = [f"shape s{k} 1" for k in range(60)] + [f"letter l{k} none left s{k}" for k in range(24)]
        rows = rows + [f"mark s{k} above 1 2 3 4" for k in range(60)] + [f"gap l{k}" for k in range(24)]
        rows = rows + [f"point s{k} {side} 1 2" for k in range(60) for side in ("above", "below")]
        hall = read_hall("\n".join(rows))
        self.assertEqual((len(hall.marks), len(hall.points), len(hall.gaps)), (60, 120, 24))


class OrderTest(unittest.TestCase):
    def test_row_goes_first(self):
        for sort, most, form in BOUNDED:
            rows, more = full_rows(sort, most, form)
            words = {"shape": "shape a 01", "letter": "letter l none up x", "class": "class k x A", "feature": "feature f x"}
            row = words.get(sort, "rule n0 x / x / > @x")
            self.assertEqual(last_fault(row, rows), "row", sort)
        rows = SMALL_ROWS + ["mark a above 1 2 3 4", "point a above 1 2", "gap l"]
        for row in ("mark a above 1 2 3 x", "mark x above 1 2 3 x", "point a above 1 -0", "point x above 1 -0", "gap l l", "gap x x"):
            self.assertEqual(last_fault(row, rows), "row", row)

    def test_twice_goes_ahead_of_name(self):
        rows = SMALL_ROWS + ["rule r f / a / > b"]
        for row in (
            "letter l none left x", "class k x", "rule r x / a / > b", "rule r f / x / > b", "rule r f / @x / > b",
            "rule r f / a / > x",
        ):
            self.assertEqual(last_fault(row, rows), "twice", row)

    def test_twice_goes_ahead_of_many(self):
        for sort, most, form in BOUNDED:
            rows, more = full_rows(sort, most, form)
            self.assertEqual(last_fault(form.format(0), rows), "twice", sort)

    def test_name_goes_ahead_of_many(self):
        for sort, most, form in BOUNDED:
            rows, more = full_rows(sort, most, form)
            unknown = {"letter": "letter m none left x", "class": "class m x", "rule": "rule m x / a / > b"}
            if sort in unknown:
                self.assertEqual(last_fault(unknown[sort], rows), "name", sort)

    def test_twice_goes_ahead_of_name_and_many(self):
        for sort, most, form in BOUNDED:
            rows, more = full_rows(sort, most, form)
            both = {"letter": "letter n0 none left x", "class": "class n0 x", "rule": "rule n0 f / @x / > b"}
            if sort in both:
                self.assertEqual(last_fault(both[sort], rows), "twice", sort)

    def test_the_first_row_at_fault_is_told(self):
        faulty = ("shape a A", "shape a 5", "gap x", "rule r f / x / > b")
        for first in faulty:
            for second in faulty:
                text = "\n".join(SMALL_ROWS + ["", first, "shape z 1", second])
                self.assertEqual(fault_of(text), (len(SMALL_ROWS) + 1, last_fault(first)))

    def test_many_ahead_of_a_later_row_fault(self):
        rows = [f"feature n{k} on" for k in range(11)] + ["none"]
        self.assertEqual(fault_of("\n".join(rows)), (10, "many"))
