"""The desk: a text of a hall's rows and of deeds, and the answers to its questions.

For each deed there is a function do_..: it changes the desk and answers None, or leaves the desk as it is and
answers the word of the deed's fault.
"""

from glyphhall.cutting import cut_rows
from glyphhall.errors import BadDeed
from glyphhall.halls import HALL_FORMS
from glyphhall.halls import SWITCHES
from glyphhall.halls import read_hall
from glyphhall.hand import letter_at
from glyphhall.laying import laid
from glyphhall.names import all_names
from glyphhall.names import is_name
from glyphhall.names import is_number
from glyphhall.names import is_signed_number
from glyphhall.names import words_of
from glyphhall.neighbours import verdicts
from glyphhall.rings import rings_of
from glyphhall.shaping import shaped
from glyphhall.ways import STRONG_WAYS
from glyphhall.ways import ways_of

QUESTIONS = ("tell", "lay", "rings", "never")


class Desk:
    """A hall, a row of letters with its way and settings, and what was told so far."""

    def __init__(self, hall):
        self.hall = hall
        self.letters = []
        self.way = "left"
        self.settings = []
        self.told = []


def answers(text):
    """The answers to the questions of a desk's text; BadHall for its hall, then BadDeed for the first deed at fault."""
    rows = text.split("\n")
    # A deed's row is left empty here, so that the hall's rows keep their numbers.
    hall = read_hall("\n".join([row if is_hall_row(words_of(row)) else "" for row in rows]))
    desk = Desk(hall)
    for place, row in enumerate(rows):
        words = words_of(row)
        if len(words) > 0 and not is_hall_row(words):
            fault = do_deed(desk, words)
            if fault is not None:
                raise BadDeed(place, fault)
    return desk.told


def is_hall_row(words):
    return len(words) > 0 and words[0] in HALL_FORMS


def do_deed(desk, words):
    form = words[0]
    if form == "row":
        return do_row(desk, words)
    if form == "way":
        return do_way(desk, words)
    if form == "set":
        return do_set(desk, words)
    if form == "change":
        return do_change(desk, words)
    return do_question(desk, words)


def do_row(desk, words):
    letters = words[1:]
    if not all_names(letters):
        return "row"
    if not all([name in desk.hall.letters for name in letters]):
        return "letter"
    desk.letters = letters
    desk.settings = []
    return None


def do_way(desk, words):
    if len(words) != 2 or words[1] not in STRONG_WAYS:
        return "row"
    desk.way = words[1]
    return None


def do_set(desk, words):
    if not has_set_form(words):
        return "row"
    if words[1] not in desk.hall.features:
        return "feature"
    desk.settings.append((words[1], int(words[2]), int(words[3]), words[4] == "on"))
    return None


def has_set_form(words):
    if len(words) != 5 or not is_name(words[1]) or words[4] not in SWITCHES:
        return False
    return is_number(words[2]) and is_number(words[3])


def do_change(desk, words):
    if len(words) != 3 or not is_number(words[1]) or not is_name(words[2]):
        return "row"
    if words[2] not in desk.hall.letters:
        return "letter"
    if int(words[1]) >= len(desk.letters):
        return "place"
    desk.letters[int(words[1])] = words[2]
    return None


def do_question(desk, words):
    if not has_question_form(words):
        return "row"
    desk.told.append(answer_to(desk, words))
    return None


def has_question_form(words):
    if words[0] == "cut":
        return len(words) == 2 and is_number(words[1])
    if words[0] == "hand":
        return len(words) == 2 and is_signed_number(words[1])
    return len(words) == 1 and words[0] in QUESTIONS


def answer_to(desk, words):
    form = words[0]
    if form == "tell":
        return cells_answer(desk)
    if form == "lay":
        return places_answer(desk)
    if form == "cut":
        return lines_answer(desk, int(words[1]))
    if form == "hand":
        return letter_answer(desk, int(words[1]))
    if form == "rings":
        return rings_answer(desk)
    return never_answer(desk)


def cells_now(desk):
    return shaped(desk.hall, desk.letters, desk.settings)[0]


def ways_now(desk):
    return ways_of(desk.hall, desk.letters, desk.way)


def cells_answer(desk):
    return " ".join([cell_word(cell) for cell in cells_now(desk)])


def cell_word(cell):
    if len(cell[1]) == 0:
        return cell[0]
    return cell[0] + ":" + ",".join([str(letter) for letter in cell[1]])


def places_answer(desk):
    cells = cells_now(desk)
    spots = laid(desk.hall, cells, ways_now(desk), desk.way)
    return " ".join([place_word(cell[0], spot) for cell, spot in zip(cells, spots)])


def place_word(shape, spot):
    return shape + "@" + str(spot[0]) + "," + str(spot[1])


def lines_answer(desk, limit):
    lines = cut_rows(desk.hall, desk.letters, desk.settings, limit)
    return " ".join([str(line[0]) + "-" + str(line[1]) for line in lines])


def letter_answer(desk, x):
    letter = letter_at(desk.hall, cells_now(desk), ways_now(desk), desk.way, x)
    return "none" if letter is None else str(letter)


def rings_answer(desk):
    found = rings_of(desk.hall)
    return " ".join([found[0]] + found[1])


def never_answer(desk):
    titled = [rule[0] for rule, word in zip(desk.hall.rules, verdicts(desk.hall)) if word == "never"]
    return " ".join(titled)
