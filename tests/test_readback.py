import itertools
import unittest

from glyphhall.errors import BadDeed, BadHall, HallError, NoFeature, NoLetter, NoRow
from glyphhall.faces import faces_of
from glyphhall.halls import read_hall
from glyphhall.readback import read_back
from tests.helpers import check_apart
from tests.test_faces import hall

SHARED = """
shape x 1
shape y 1
shape z 1
shape w 1
shape lone 1
letter p both left x y y z
letter q none left z
letter r clear left w
letter s clear left w
"""


class ReadBackTest(unittest.TestCase):
    def refused(self, some_hall, shapes):
        with self.assertRaises(NoRow, msg=shapes) as caught:
            read_back(some_hall, shapes)
        return caught.exception

    def test_no_shapes_tell_no_letters(self):
        self.assertEqual(read_back(hall(), []), [])
        self.assertEqual(read_back(read_hall(""), []), [])
        self.assertEqual(read_back(read_hall(SHARED), []), [])

    def test_the_faces_of_a_row_are_read_back(self):
        own = hall()
        for length in range(6):
            for row in itertools.product("nbdc", repeat=length):
                self.assertEqual(read_back(own, faces_of(own, list(row))), list(row))
        for row in (["d"] * 200, ["d", "c"] * 100, ["d", "b", "c", "n", "e"] * 40):
            self.assertEqual(read_back(own, faces_of(own, row)), row)

    def test_each_short_row_of_shapes(self):
        own = hall()
        shapes = ("n0", "b0", "b1", "d0", "d1", "d2", "d3", "c0", "only")
        for length in range(4):
            rows = {tuple(faces_of(own, list(row))): list(row) for row in itertools.product("nbdc", repeat=length)}
            for row in itertools.product(shapes, repeat=length):
                if row in rows:
                    self.assertEqual(read_back(own, list(row)), rows[row])
                else:
                    self.refused(own, list(row))

    def test_faces_that_the_neighbours_do_not_ask_for(self):
        for row in ("d1", "d2", "d3", "b1", "d0 d3", "d1 d0", "d0 b0", "d1 b0", "b1 d0", "d1 n0", "d1 c0", "d0 c0 b0", "d1 d3 d3"):
            self.refused(hall(), row.split())

    def test_a_shape_of_two_letters(self):
        shared = read_hall(SHARED)
        self.refused(shared, ["z"])
        self.refused(shared, ["x", "z"])
        self.refused(shared, ["w"])
        self.refused(shared, ["x", "w"])

    def test_a_shape_of_no_letter(self):
        self.refused(hall(), ["only"])
        self.refused(hall(), ["n0", "only"])
        self.refused(hall(), ["only", "n0"])
        self.refused(read_hall(SHARED), ["lone"])

    def test_a_text_that_is_no_shape(self):
        for text in ("", "x", "n", "d", "N0", "n0 ", " ", "@n0"):
            self.refused(hall(), [text])
            self.refused(hall(), ["n0", text, "n0"])

    def test_a_shape_twice_among_one_letters_shapes(self):
        own = read_hall("shape x 1\nshape y 1\nshape z 1\nletter p both left x x x y\nletter q back left z z")
        self.assertEqual(read_back(own, ["x"]), ["p"])
        self.assertEqual(read_back(own, ["x", "y"]), ["p", "p"])
        self.assertEqual(read_back(own, ["x", "x", "y"]), ["p", "p", "p"])
        self.assertEqual(read_back(own, ["x", "z", "z", "x"]), ["p", "q", "q", "p"])
        for row in (["y"], ["x", "x"], ["y", "x"]):
            self.refused(own, row)

    def test_what_can_be_read_beside_shared_shapes(self):
        self.assertEqual(read_back(read_hall(SHARED), ["x"]), ["p"])

    def test_no_other_refusal(self):
        self.assertIsInstance(self.refused(hall(), ["x"]), HallError)
        self.assertNotIsInstance(self.refused(hall(), ["d1"]), (BadHall, NoFeature, NoLetter, BadDeed))

    def test_kinds_and_apart(self):
        self.assertIs(type(read_back(hall(), ["d1", "b1"])), list)
        for row in ("", "d0", "c0 d1 d2 c0 b1 n0"):
            check_apart(self, read_back, hall(), row.split())
        given = ["d0", "only"]
        self.refused(hall(), given)
        self.assertEqual(given, ["d0", "only"])
