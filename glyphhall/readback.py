"""Reading back: the letters whose faces a row of shapes is."""

from glyphhall.errors import NoRow
from glyphhall.faces import faces_of


def read_back(hall, shapes):
    """The letters of a row of shapes; NoRow where a shape has not just one letter or the faces are others."""
    letters = [only_letter(hall, shape) for shape in shapes]
    if faces_of(hall, letters) != list(shapes):
        raise NoRow("the letters of these shapes have other faces")
    return letters


def only_letter(hall, shape):
    owners = [name for name, letter in hall.letters.items() if shape in letter[2]]
    if len(owners) != 1:
        raise NoRow("a shape does not stand for just one letter")
    return owners[0]
