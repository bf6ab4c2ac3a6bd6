"""What several test files ask for."""

import copy

from glyphhall.errors import BadHall
from glyphhall.halls import read_hall

SMALL_ROWS = [
    "shape a 5",
    "shape b 7",
    "shape c 0",
    "letter l none left a",
    "class k a b",
    "feature f on",
]


def fault_of(text):
    """The (place, word) with which read_hall refuses a text, None where it reads it."""
    try:
        read_hall(text)
    except BadHall as error:
        return (error.place, error.word)
    return None


def last_fault(row, rows=SMALL_ROWS):
    """The word with which a row behind sound rows is refused, None where it is read."""
    fault = fault_of("\n".join(list(rows) + [row]))
    if fault is None:
        return None
    place, word = fault
    if place != len(rows):
        raise AssertionError(f"row {place} is refused with {word}, not {row!r}")
    return word


def fields_of(hall):
    """All fields of a hall, dicts as lists, so that their orders are compared too."""
    return {
        "shapes": list(hall.shapes.items()),
        "marks": list(hall.marks.items()),
        "points": list(hall.points.items()),
        "letters": list(hall.letters.items()),
        "gaps": list(hall.gaps),
        "classes": list(hall.classes.items()),
        "features": list(hall.features.items()),
        "rules": list(hall.rules),
    }


def cells_of(text):
    """The cells that a text tells: "a:0,1 b c:2" as (a, (0, 1)), (b, ()), (c, (2,))."""
    cells = []
    for word in text.split():
        shape, colon, places = word.partition(":")
        cells.append((shape, tuple(int(place) for place in places.split(",") if place)))
    return cells


def row_of(text):
    """The cells of shapes parted by blanks, the k-th of the k-th letter."""
    return [(shape, (place,)) for place, shape in enumerate(text.split())]


def letters_in(cells):
    """All letters of the cells, one behind the other."""
    return [place for shape, letters in cells for place in letters]


def spoil(told):
    """Changes all lists of what a function told, those within others too."""
    if isinstance(told, (list, tuple)):
        for part in told:
            spoil(part)
    if isinstance(told, list):
        told.reverse()
        told.append("new")
        told[0] = "other"


def check_apart(test, asked, hall, *given):
    """That a function leaves what is handed in as it was, and that changing what it told changes nothing."""
    fields = fields_of(hall)
    kept = copy.deepcopy(given)
    first = copy.deepcopy(asked(hall, *given))
    told = asked(hall, *given)
    test.assertEqual(told, first)
    test.assertEqual(given, kept)
    spoil(told)
    test.assertEqual(fields_of(hall), fields)
    test.assertEqual(given, kept)
    test.assertEqual(asked(hall, *given), first)
