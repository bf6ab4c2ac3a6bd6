"""What several test files ask for."""

from glyphhall.errors import BadHall
from glyphhall.halls import read_hall

SMALL_ROWS = [
    "shape a 5",
    "shape b 7",
    "shape c 0",
    "letter l none left a",
    "class k a b",
    "feature f on",
]


def fault_of(text):
    """The (place, word) with which read_hall refuses a text, None where it reads it."""
    try:
        read_hall(text)
    except BadHall as error:
        return (error.place, error.word)
    return None


def last_fault(row, rows=SMALL_ROWS):
    """The word with which a row behind sound rows is refused, None where it is read."""
    fault = fault_of("\n".join(list(rows) + [row]))
    if fault is None:
        return None
    place, word = fault
    if place != len(rows):
        raise AssertionError(f"row {place} is refused with {word}, not {row!r}")
    return word


def fields_of(hall):
    """All fields of a hall, dicts as lists, so that their orders are compared too."""
    return {
        "shapes": list(hall.shapes.items()),
        "marks": list(hall.marks.items()),
        "points": list(hall.points.items()),
        "letters": list(hall.letters.items()),
        "gaps": list(hall.gaps),
        "classes": list(hall.classes.items()),
        "features": list(hall.features.items()),
        "rules": list(hall.rules),
    }
