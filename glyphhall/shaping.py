"""Shaping: a row of letters made to cells by all rules, and what stays alike where one letter is another."""

from glyphhall.faces import check_letters
from glyphhall.faces import faces_of
from glyphhall.rules import check_features
from glyphhall.rules import done


def shaped(hall, letters, settings):
    """The cells of a row of letters, and how often each rule was done; NoLetter, then NoFeature."""
    cells = first_cells(faces_of(hall, letters))
    # Asked here too, since a hall may have no rule that would ask.
    check_features(hall, settings)
    counts = []
    for rule in hall.rules:
        outcome = done(hall, rule, cells, settings)
        cells = outcome[0]
        counts.append(outcome[1])
    return (cells, counts)


def first_cells(faces):
    return [(shape, (place,)) for place, shape in enumerate(faces)]


def changed(hall, letters, settings, place, letter):
    """The cells of the row with the letter put in at the place, and how many are as they were ahead and behind."""
    row = list(letters)
    row[place] = letter
    # Both rows are asked for their letters ahead of the settings, since NoFeature is due behind NoLetter.
    check_letters(hall, letters)
    check_letters(hall, row)
    old = shaped(hall, letters, settings)[0]
    cells = shaped(hall, row, settings)[0]
    ahead = alike_count(old, cells)
    behind = alike_count(list(reversed(old[ahead:])), list(reversed(cells[ahead:])))
    return (cells, ahead, behind)


def alike_count(one, other):
    """How many cells at the beginning are alike in two rows of cells."""
    count = 0
    for pair in zip(one, other):
        if pair[0] != pair[1]:
            return count
        count = count + 1
    return count
