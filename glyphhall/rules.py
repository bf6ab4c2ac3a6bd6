"""Rules: which shapes an item fits, and a rule done to a row of cells.

A cell is a pair (shape, letters), letters the places of the letters that it came from. A rule is a tuple
(title, feature, before, core, after, told). A setting is a tuple (feature, first, last, on).
"""

from glyphhall.errors import NoFeature
from glyphhall.names import CLASS_SIGN
from glyphhall.names import class_of_item


def fits(hall, item, shape):
    """Whether an item, a shape's name or @ and a class's name, fits a shape."""
    return shape in fitting_shapes(hall, item)


def fitting_shapes(hall, item):
    if item.startswith(CLASS_SIGN):
        return hall.classes.get(class_of_item(item), ())
    return (item,)


def done(hall, rule, cells, settings):
    """The cells that a rule makes of a row of cells, and how often it was done; NoFeature for the settings."""
    check_features(hall, settings)
    # The row as it is now is always these cells and the ones from the place on: what is put in is passed at once.
    passed = []
    homes = homes_of(cells)
    # Asked ahead of all else, since at most places not even the core's first item fits.
    firsts = fitting_shapes(hall, rule[3][0])
    place = 0
    count = 0
    while place < len(cells):
        end = place + len(rule[3])
        whole = cells[place][0] in firsts and items_fit(hall, rule, passed, cells, place)
        if whole and is_on_at_all(hall, rule[1], settings, homes[place:end]):
            passed.extend(told_cells(rule[5], cells[place:end]))
            place = end
            count = count + 1
        else:
            passed.append(cells[place])
            place = place + 1
    return (passed, count)


def items_fit(hall, rule, passed, cells, place):
    """Whether a rule's items fit at a place of the cells, where those passed stand before it now."""
    end = place + len(rule[3])
    if not all_fit(hall, rule[3], cells[place:end]):
        return False
    if not all_fit(hall, rule[2], passed[max(0, len(passed) - len(rule[2])):]):
        return False
    return all_fit(hall, rule[4], cells[end:end + len(rule[4])])


def all_fit(hall, items, cells):
    # Over an end of the row there are fewer cells than items.
    if len(items) != len(cells):
        return False
    for item, cell in zip(items, cells):
        if not fits(hall, item, cell[0]):
            return False
    return True


def told_cells(told, core):
    letters = ()
    for cell in core:
        letters = letters + cell[1]
    return [(told[0], letters)] + [(shape, ()) for shape in told[1:]]


def homes_of(cells):
    """The home of each cell: its first letter, or the last one named ahead of it."""
    homes = []
    last = None
    for cell in cells:
        if len(cell[1]) > 0:
            homes.append(cell[1][0])
            last = cell[1][-1]
        else:
            homes.append(last)
    return homes


def check_features(hall, settings):
    """NoFeature where a setting's feature is one that the hall lacks."""
    for setting in settings:
        if setting[0] not in hall.features:
            raise NoFeature("the hall lacks a feature of the settings")


def is_on(hall, feature, settings, letter):
    """Whether a feature is on at a letter's place, by the last setting that tells of it or else by the hall."""
    on = hall.features[feature]
    for setting in settings:
        if setting[0] == feature and setting[1] <= letter <= setting[2]:
            on = setting[3]
    return on


def is_on_at_all(hall, feature, settings, letters):
    return all([is_on(hall, feature, settings, letter) for letter in letters])
