"""The hand: where each letter of a laid row is, and which letter is at an x."""

from glyphhall.laying import laid


def spans_of(hall, cells, ways, way):
    """The span (from, to) of each letter, in the letters' order."""
    spans = []
    # The letters of the cells, one behind the other, are all letters of the row in order.
    for cell, spot in zip(cells, laid(hall, cells, ways, way)):
        if cell[0] in hall.marks:
            spans.extend([(spot[0], spot[0]) for letter in cell[1]])
        else:
            spans.extend(spans_in(hall.shapes[cell[0]], spot[0], [ways[letter] for letter in cell[1]]))
    return spans


def spans_in(width, x, ways):
    """The spans of the letters of a base at x, by their ways."""
    count = len(ways)
    # The cell's way is that of its home, its first letter.
    return [span_at(width, x, number, count, ways[0]) for number in range(count)]


def span_at(width, x, number, count, way):
    """The span of one of so many letters of a base at x."""
    near = width * number // count
    far = width * (number + 1) // count
    if way == "right":
        return (x + width - far, x + width - near)
    return (x + near, x + far)


def letter_at(hall, cells, ways, way, x):
    """The place of the letter whose span has this x, None where there is none."""
    for place, span in enumerate(spans_of(hall, cells, ways, way)):
        if span[0] <= x < span[1]:
            return place
    return None
