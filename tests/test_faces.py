import itertools
import unittest

from glyphhall.errors import BadDeed, BadHall, HallError, NoFeature, NoLetter, NoRow
from glyphhall.faces import faces_of
from glyphhall.halls import read_hall
from tests.helpers import check_apart

HALL_TEXT = """
shape n0 1
shape b0 1
shape b1 1
shape d0 1
shape d1 1
shape d2 1
shape d3 1
shape c0 1
shape m0 1
shape e0 1
shape e1 1
shape only 1
letter n none left n0
letter b back right b0 b1
letter d both either d0 d1 d2 d3
letter c clear left c0
letter m clear right m0
letter e back left e0 e1
"""

# The faces of all rows of two letters that are not clear.
PAIRS = {
    "nn": "n0 n0", "nb": "n0 b0", "nd": "n0 d0",
    "bn": "b0 n0", "bb": "b0 b0", "bd": "b0 d0",
    "dn": "d0 n0", "db": "d1 b1", "dd": "d1 d3",
}

# And of all rows of three.
TRIPLES = {
    "nnn": "n0 n0 n0", "nnb": "n0 n0 b0", "nnd": "n0 n0 d0",
    "nbn": "n0 b0 n0", "nbb": "n0 b0 b0", "nbd": "n0 b0 d0",
    "ndn": "n0 d0 n0", "ndb": "n0 d1 b1", "ndd": "n0 d1 d3",
    "bnn": "b0 n0 n0", "bnb": "b0 n0 b0", "bnd": "b0 n0 d0",
    "bbn": "b0 b0 n0", "bbb": "b0 b0 b0", "bbd": "b0 b0 d0",
    "bdn": "b0 d0 n0", "bdb": "b0 d1 b1", "bdd": "b0 d1 d3",
    "dnn": "d0 n0 n0", "dnb": "d0 n0 b0", "dnd": "d0 n0 d0",
    "dbn": "d1 b1 n0", "dbb": "d1 b1 b0", "dbd": "d1 b1 d0",
    "ddn": "d1 d3 n0", "ddb": "d1 d2 b1", "ddd": "d1 d2 d3",
}

CLEAR_COUNTS = (0, 1, 3)


def hall():
    return read_hall(HALL_TEXT)


def with_clear(row, faces, counts):
    """A row and its faces with so many clear letters ahead of each letter, and behind the last one."""
    letters = []
    shapes = []
    for place, count in enumerate(counts):
        letters += ["c"] * count
        shapes += ["c0"] * count
        if place < len(row):
            letters.append(row[place])
            shapes.append(faces[place])
    return letters, shapes


class FacesTest(unittest.TestCase):
    def check(self, letters, shapes):
        self.assertEqual(faces_of(hall(), list(letters)), shapes.split(), letters)

    def test_the_empty_row(self):
        self.assertEqual(faces_of(hall(), []), [])
        self.assertEqual(faces_of(read_hall(""), []), [])

    def test_each_join_by_itself(self):
        for letter, shape in (("n", "n0"), ("b", "b0"), ("d", "d0"), ("c", "c0"), ("m", "m0"), ("e", "e0")):
            self.check(letter, shape)

    def test_each_pair_of_joins(self):
        for row, faces in PAIRS.items():
            self.check(row, faces)
        for letter, shape in (("n", "n0"), ("b", "b0"), ("d", "d0"), ("c", "c0")):
            self.check(letter + "c", shape + " c0")
            self.check("c" + letter, "c0 " + shape)

    def test_pairs_with_clear_letters(self):
        for row, faces in PAIRS.items():
            for counts in itertools.product(CLEAR_COUNTS, repeat=3):
                letters, shapes = with_clear(row, faces.split(), counts)
                self.assertEqual(faces_of(hall(), letters), shapes, letters)

    def test_each_letter_between_two_others(self):
        self.assertEqual(len(TRIPLES), 27)
        for row, faces in TRIPLES.items():
            for counts in itertools.product(CLEAR_COUNTS, repeat=4):
                letters, shapes = with_clear(row, faces.split(), counts)
                self.assertEqual(faces_of(hall(), letters), shapes, letters)

    def test_back_behind_and_ahead(self):
        self.check("db", "d1 b1")
        self.check("de", "d1 e1")
        self.check("bb", "b0 b0")
        self.check("be", "b0 e0")
        self.check("bd", "b0 d0")
        self.check("dbe", "d1 b1 e0")
        self.check("dbd", "d1 b1 d0")
        self.check("dbdb", "d1 b1 d1 b1")
        self.check("ddbb", "d1 d2 b1 b0")

    def test_clear_letters_alone(self):
        for count in (1, 2, 5, 200):
            self.assertEqual(faces_of(hall(), ["c"] * count), ["c0"] * count)
        self.check("cmmc", "c0 m0 m0 c0")

    def test_clear_letters_at_both_ends(self):
        self.check("cdc", "c0 d0 c0")
        self.check("mcddbcm", "m0 c0 d1 d2 b1 c0 m0")
        self.check("ccdcmcbcc", "c0 c0 d1 c0 m0 c0 b1 c0 c0")

    def test_a_letter_none_parts(self):
        self.check("dnd", "d0 n0 d0")
        self.check("dcnd", "d0 c0 n0 d0")
        self.check("ddndd", "d1 d3 n0 d1 d3")

    def test_two_hundred_letters(self):
        self.assertEqual(faces_of(hall(), ["d"] * 200), ["d1"] + ["d2"] * 198 + ["d3"])
        self.assertEqual(faces_of(hall(), ["d", "c"] * 100), ["d1", "c0"] + ["d2", "c0"] * 98 + ["d3", "c0"])
        self.assertEqual(faces_of(hall(), ["d", "b"] * 100), ["d1", "b1"] * 100)
        self.assertEqual(faces_of(hall(), ["b", "d"] * 100), ["b0"] + ["d1", "b1"] * 99 + ["d0"])
        self.assertEqual(faces_of(hall(), ["d"] + ["c"] * 198 + ["b"]), ["d1"] + ["c0"] * 198 + ["b1"])
        self.assertEqual(faces_of(hall(), ["n"] * 200), ["n0"] * 200)

    def test_letters_that_share_shapes(self):
        rows = ["shape x 1", "shape y 1", "letter p both left x y y x", "letter q back left x x", "letter r clear left y"]
        self.assertEqual(faces_of(read_hall("\n".join(rows)), list("pprqrp")), list("yyyxyx"))

    def test_ways_and_gaps_count_for_nothing(self):
        turned = HALL_TEXT.replace("either", "left").replace("right", "either") + "gap d\ngap c\n"
        for row in ("dd", "dcb", "ddndb"):
            self.assertEqual(faces_of(read_hall(turned), list(row)), faces_of(hall(), list(row)))

    def test_kinds_and_apart(self):
        told = faces_of(hall(), list("dcb"))
        self.assertIs(type(told), list)
        for row in ("", "d", "cdbnc", "ddd"):
            check_apart(self, faces_of, hall(), list(row))


class NoLetterTest(unittest.TestCase):
    def check(self, letters, place):
        with self.assertRaises(NoLetter) as caught:
            faces_of(hall(), letters)
        self.assertEqual(caught.exception.place, place, letters)

    def test_the_place_of_a_lacking_letter(self):
        for place in range(4):
            row = ["d", "c", "n", "b"]
            row[place] = "x"
            self.check(row, place)
        self.check(["d"] * 199 + ["x"], 199)

    def test_the_first_of_several(self):
        self.check(["x", "y"], 0)
        self.check(["d", "x", "n", "y", "x"], 1)
        self.check(["d", "c", "y", "x"], 2)

    def test_names_that_are_no_letters(self):
        for name in ("d0", "only", "", " ", "D", "d ", "none", "@d", "dd"):
            self.check(["n", name], 1)
        with self.assertRaises(NoLetter):
            faces_of(read_hall("shape d 1"), ["d"])

    def test_it_stands_under_hall_error_and_no_other_refusal(self):
        with self.assertRaises(HallError) as caught:
            faces_of(hall(), ["x"])
        self.assertNotIsInstance(caught.exception, (BadHall, NoFeature, NoRow, BadDeed))
