import unittest

from glyphhall.halls import read_hall
from glyphhall.names import is_item, is_name, is_number, is_signed_number, words_of
from tests.helpers import last_fault

NAMES = ("a", "z", "0", "9", "00", "7up", "shape", "on", "abcdefghijkl", "012345678901", "a1b2c3d4e5f6")
NO_NAMES = (
    "abcdefghijklm", "0123456789012", "A", "aB", "Zz", "a-b", "-", "a_", "a.b", "@", "@a", "/", ">", "a/", "a>", "a:", "`", "{",
    "~", "!", "?",
)
NUMBERS = (("0", 0), ("1", 1), ("9", 9), ("10", 10), ("907", 907), ("10000", 10000), ("99999", 99999))
NO_NUMBERS = (
    "00", "01", "007", "000000", "100000", "123456", "a", "1a", "a1", "1.5", "1,5", "+1", "+0", "-", "--1", "-0", "-00", "-01",
    "1-", "1-2", "-a", "-1a", "- 1", "-100000", "0x1", "1e3", "1_0",
)
SIGNED = (("-1", -1), ("-9", -9), ("-10", -10), ("-99999", -99999))


class NamesTest(unittest.TestCase):
    def test_names(self):
        for word in NAMES:
            self.assertTrue(is_name(word), word)
            self.assertTrue(is_item(word), word)
            self.assertEqual(list(read_hall(f"shape {word} 3").shapes.items()), [(word, 3)])

    def test_every_sign_of_a_name(self):
        for sign in "abcdefghijklmnopqrstuvwxyz0123456789":
            self.assertIsNone(last_fault(f"shape x{sign} 3", []), sign)

    def test_no_names(self):
        self.assertFalse(is_name(""))
        for word in NO_NAMES:
            self.assertFalse(is_name(word), word)
            self.assertEqual(last_fault(f"shape {word} 3"), "row", word)

    def test_no_sign_of_another_sort_in_a_name(self):
        for code in range(ord("!"), ord("~") + 1):
            sign = chr(code)
            if sign not in "abcdefghijklmnopqrstuvwxyz0123456789":
                self.assertEqual(last_fault(f"shape x{sign} 3", []), "row", sign)

    def test_no_names_where_a_name_stands_in_each_form(self):
        for bad in ("A", "abcdefghijklm", "a-", "@a"):
            for row in (
                f"mark {bad} above 1 2 3 4", f"point {bad} above 1 2", f"letter {bad} none left a", f"letter x none left {bad}",
                f"letter x back left a {bad}", f"gap {bad}", f"class {bad} a", f"class x {bad}", f"class x a {bad} b",
                f"feature {bad} on", f"rule {bad} f / a / > b", f"rule x {bad} / a / > b", f"rule x f / a / > {bad}",
                f"rule x f / a / > b {bad}",
            ):
                self.assertEqual(last_fault(row), "row", row)

    def test_names_of_twelve_signs_in_each_form(self):
        name = "abcdefghij01"
        rows = [f"shape {name} 1", f"letter {name} none left {name}", f"class {name} {name}", f"feature {name} off"]
        hall = read_hall("\n".join(rows + [
            f"mark {name} below 1 2 3 4", f"point {name} above 1 2", f"gap {name}",
            f"rule {name} {name} {name} / @{name} / @{name} > {name}",
        ]))
        self.assertEqual(hall.rules, [(name, name, (name,), (f"@{name}",), (f"@{name}",), (name,))])
        self.assertEqual(hall.gaps, [name])


class NumbersTest(unittest.TestCase):
    def test_widths(self):
        for word, value in NUMBERS:
            self.assertTrue(is_number(word), word)
            width = read_hall(f"shape a {word}").shapes["a"]
            self.assertEqual((width, type(width)), (value, int))

    def test_no_widths(self):
        self.assertFalse(is_number(""))
        for word in NO_NUMBERS + tuple(word for word, value in SIGNED):
            self.assertFalse(is_number(word), word)
            self.assertEqual(last_fault(f"shape x {word}"), "row", word)

    def test_no_sign_of_another_sort_in_a_number(self):
        for code in range(ord("!"), ord("~") + 1):
            sign = chr(code)
            if not "0" <= sign <= "9":
                self.assertEqual(last_fault(f"shape x 1{sign}", []), "row", sign)
                self.assertEqual(last_fault(f"point a above 1{sign} 2"), "row", sign)

    def test_points_and_marks(self):
        for word, value in NUMBERS + SIGNED:
            self.assertTrue(is_signed_number(word), word)
            rows = ["shape a 1", f"point a above {word} 3", f"point a below 3 {word}", f"mark a below {word} 1 2 3"]
            hall = read_hall("\n".join(rows))
            self.assertEqual(hall.points, {("a", "above"): (value, 3), ("a", "below"): (3, value)})
            self.assertEqual(hall.marks, {"a": ("below", (value, 1), (2, 3))})

    def test_no_numbers_of_points_and_marks(self):
        self.assertFalse(is_signed_number(""))
        for word in NO_NUMBERS:
            self.assertFalse(is_signed_number(word), word)
            for row in (
                f"point a above {word} 3", f"point a above 3 {word}", f"mark a above {word} 1 2 3", f"mark a above 1 {word} 2 3",
                f"mark a above 1 2 {word} 3", f"mark a above 1 2 3 {word}",
            ):
                self.assertEqual(last_fault(row), "row", row)


class WordsTest(unittest.TestCase):
    def test_words_and_blanks(self):
        for row in ("a b1 -c", "  a b1 -c", "a b1 -c   ", " a   b1  -c "):
            self.assertEqual(words_of(row), ["a", "b1", "-c"])
        for row in ("", " ", "     "):
            self.assertEqual(words_of(row), [])
