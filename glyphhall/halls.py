"""Halls, and how they are read from a text.

For each form of a row there is a function take_..: it puts what the row tells into the hall and answers None,
or leaves the hall as it is and answers the word of the row's fault.
"""

from glyphhall.errors import BadHall
from glyphhall.names import all_items
from glyphhall.names import all_names
from glyphhall.names import all_signed_numbers
from glyphhall.names import class_of_item
from glyphhall.names import is_class_item
from glyphhall.names import is_name
from glyphhall.names import is_number
from glyphhall.names import words_of

HALL_FORMS = ("shape", "mark", "point", "letter", "gap", "class", "feature", "rule")
SIDES = ("above", "below")
WAYS = ("left", "right", "either")
SWITCHES = ("on", "off")
SHAPES_OF_JOIN = {"none": 1, "clear": 1, "back": 2, "both": 4}

MOST_SHAPES = 60
MOST_LETTERS = 24
MOST_CLASSES = 20
MOST_FEATURES = 10
MOST_RULES = 30

MOST_IN_CLASS = 20
MOST_AROUND = 3
MOST_IN_CORE = 4
MOST_TOLD = 3


class Hall:
    """What a hall's text tells, each field in the order of its rows."""

    def __init__(self):
        self.shapes = {}
        self.marks = {}
        self.points = {}
        self.letters = {}
        self.gaps = []
        self.classes = {}
        self.features = {}
        self.rules = []


def read_hall(text):
    """The hall that the text tells; BadHall for the first row at fault."""
    hall = Hall()
    for place, row in enumerate(text.split("\n")):
        words = words_of(row)
        if len(words) > 0:
            fault = take_row(hall, words)
            if fault is not None:
                raise BadHall(place, fault)
    return hall


def take_row(hall, words):
    form = words[0]
    if form == "shape":
        return take_shape(hall, words)
    if form == "mark":
        return take_mark(hall, words)
    if form == "point":
        return take_point(hall, words)
    if form == "letter":
        return take_letter(hall, words)
    if form == "gap":
        return take_gap(hall, words)
    if form == "class":
        return take_class(hall, words)
    if form == "feature":
        return take_feature(hall, words)
    if form == "rule":
        return take_rule(hall, words)
    return "row"


def first_due(again, known, full):
    """The word of the first fault due to a row that has its form, None where none is."""
    # All forms ask here, so that the order of the faults is kept in one place.
    if again:
        return "twice"
    if not known:
        return "name"
    if full:
        return "many"
    return None


def has_shapes(hall, names):
    return all([name in hall.shapes for name in names])


def pair_of(words):
    return (int(words[0]), int(words[1]))


def take_shape(hall, words):
    if len(words) != 3 or not is_name(words[1]) or not is_number(words[2]):
        return "row"
    name = words[1]
    fault = first_due(name in hall.shapes, True, len(hall.shapes) >= MOST_SHAPES)
    if fault is None:
        hall.shapes[name] = int(words[2])
    return fault


def has_side_form(words, count):
    """Whether behind the first word stand a name, a side and so many numbers."""
    if len(words) != 3 + count or not is_name(words[1]):
        return False
    return words[2] in SIDES and all_signed_numbers(words[3:])


def take_mark(hall, words):
    if not has_side_form(words, 4):
        return "row"
    name = words[1]
    fault = first_due(name in hall.marks, name in hall.shapes, False)
    if fault is None:
        hall.marks[name] = (words[2], pair_of(words[3:5]), pair_of(words[5:7]))
    return fault


def take_point(hall, words):
    if not has_side_form(words, 2):
        return "row"
    name = words[1]
    spot = (name, words[2])
    fault = first_due(spot in hall.points, name in hall.shapes, False)
    if fault is None:
        hall.points[spot] = pair_of(words[3:5])
    return fault


def has_letter_form(words):
    if len(words) < 4 or not is_name(words[1]):
        return False
    if words[2] not in SHAPES_OF_JOIN or words[3] not in WAYS:
        return False
    shapes = words[4:]
    return len(shapes) == SHAPES_OF_JOIN[words[2]] and all_names(shapes)


def take_letter(hall, words):
    if not has_letter_form(words):
        return "row"
    name = words[1]
    shapes = words[4:]
    fault = first_due(name in hall.letters, has_shapes(hall, shapes), len(hall.letters) >= MOST_LETTERS)
    if fault is None:
        hall.letters[name] = (words[2], words[3], tuple(shapes))
    return fault


def take_gap(hall, words):
    if len(words) != 2 or not is_name(words[1]):
        return "row"
    name = words[1]
    fault = first_due(name in hall.gaps, name in hall.letters, False)
    if fault is None:
        hall.gaps.append(name)
    return fault


def take_class(hall, words):
    shapes = words[2:]
    if not 1 <= len(shapes) <= MOST_IN_CLASS or not all_names(words[1:]):
        return "row"
    name = words[1]
    fault = first_due(name in hall.classes, has_shapes(hall, shapes), len(hall.classes) >= MOST_CLASSES)
    if fault is None:
        hall.classes[name] = tuple(shapes)
    return fault


def take_feature(hall, words):
    if len(words) != 3 or not is_name(words[1]) or words[2] not in SWITCHES:
        return "row"
    name = words[1]
    fault = first_due(name in hall.features, True, len(hall.features) >= MOST_FEATURES)
    if fault is None:
        hall.features[name] = words[2] == "on"
    return fault


def take_rule(hall, words):
    if not has_rule_form(words):
        return "row"
    title = words[1]
    feature = words[2]
    parts = rule_parts(words)
    items = parts[0] + parts[1] + parts[2]
    known = feature in hall.features and has_items(hall, items) and has_shapes(hall, parts[3])
    fault = first_due(has_rule(hall, title), known, len(hall.rules) >= MOST_RULES)
    if fault is None:
        hall.rules.append((title, feature, tuple(parts[0]), tuple(parts[1]), tuple(parts[2]), tuple(parts[3])))
    return fault


def has_rule_form(words):
    if not all_names(words[1:3]):
        return False
    parts = rule_parts(words)
    if parts is None or len(parts[0]) > MOST_AROUND or len(parts[2]) > MOST_AROUND:
        return False
    if not 1 <= len(parts[1]) <= MOST_IN_CORE or not 1 <= len(parts[3]) <= MOST_TOLD:
        return False
    return all_items(parts[0] + parts[1] + parts[2]) and all_names(parts[3])


def rule_parts(words):
    """The lists of items before, in and after the core and of told shapes; None where the words are not parted so."""
    parts = [[]]
    partings = []
    for word in words[3:]:
        if word in ("/", ">"):
            partings.append(word)
            parts.append([])
        else:
            parts[-1].append(word)
    if partings != ["/", "/", ">"]:
        return None
    return parts


def has_items(hall, items):
    return all([has_item(hall, item) for item in items])


def has_item(hall, item):
    if is_class_item(item):
        return class_of_item(item) in hall.classes
    return item in hall.shapes


def has_rule(hall, title):
    return any([rule[0] == title for rule in hall.rules])
