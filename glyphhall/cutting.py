"""Cutting: a row of letters cut into lines."""

from glyphhall.faces import check_letters
from glyphhall.laying import width_of
from glyphhall.rules import check_features
from glyphhall.shaping import shaped


def cut_rows(hall, letters, settings, limit):
    """The lines as pairs (first, end) of places of letters; NoLetter, then NoFeature."""
    # Asked of the whole row, since the places of a line's letters are others, and a row may have no lines.
    check_letters(hall, letters)
    check_features(hall, settings)
    lines = []
    first = 0
    while first < len(letters):
        ends = [end for end in piece_ends(hall, letters) if end > first]
        end = line_end(hall, letters, settings, limit, first, ends)
        lines.append((first, end))
        first = end
    return lines


def piece_ends(hall, letters):
    """The places behind the last letters of the pieces of a row that has letters."""
    inner = [place + 1 for place, name in enumerate(letters[:-1]) if name in hall.gaps]
    return inner + [len(letters)]


def line_end(hall, letters, settings, limit, first, ends):
    """The end of the line that begins at first, one of the ends."""
    # A line of more pieces may be narrower than one of fewer, so all ends are tried, the farthest one first.
    for end in reversed(ends):
        if line_width(hall, letters, settings, first, end) <= limit:
            return end
    return ends[0]


def line_width(hall, letters, settings, first, end):
    return width_of(hall, shaped(hall, letters[first:end], settings_from(settings, first))[0])


def settings_from(settings, first):
    """The settings counted by the places of a line that begins at first."""
    return [(setting[0], setting[1] - first, setting[2] - first, setting[3]) for setting in settings]
