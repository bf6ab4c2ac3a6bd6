import re
import unittest

from glyphhall.cutting import cut_rows
from glyphhall.desk import answers
from glyphhall.errors import BadDeed, BadHall, HallError
from glyphhall.halls import read_hall
from glyphhall.hand import letter_at
from glyphhall.laying import laid
from glyphhall.neighbours import verdicts
from glyphhall.rings import rings_of
from glyphhall.shaping import shaped
from glyphhall.ways import ways_of
from tests.helpers import fault_of
from tests.some_halls import chance_of, some_hall_text

HALL = """shape lam 6
shape alef 5
shape lamalef 9
shape bow 7
shape dot 0
shape tail 2
shape stop 3
mark dot above 1 3 0 4
point bow above 3 9
letter l none right lam
letter a none right alef
letter b none left bow
letter d clear either dot
letter s none either stop
gap a
gap s
class tall lam alef
feature liga on
feature tails off
rule joined liga / lam alef / > lamalef
rule tailed tails / lamalef / > lamalef tail
rule lost liga bow / tail / > stop
rule late liga / tail stop / > dot"""
HALL_ROWS = len(HALL.split("\n"))

HALL_WORDS = ("shape", "mark", "point", "letter", "gap", "class", "feature", "rule")

NAME = "[a-z0-9]{1,12}"
NUMBER = "(?:0|[1-9][0-9]{0,4})"
SIGNED = "(?:0|-?[1-9][0-9]{0,4})"
FORMS = (
    f"row(?: {NAME})*", "way (?:left|right)", f"set {NAME} {NUMBER} {NUMBER} (?:on|off)", f"change {NUMBER} {NAME}", "tell", "lay",
    f"cut {NUMBER}", f"hand {SIGNED}", "rings", "never",
)


def desk_text(*deeds):
    return "\n".join([HALL] + list(deeds))


def told_of(text):
    """The answers to a text, or (BadHall or BadDeed, place, word)."""
    try:
        return answers(text)
    except BadHall as error:
        return ("BadHall", error.place, error.word)
    except BadDeed as error:
        return ("BadDeed", error.place, error.word)


def deed_fault(*deeds):
    """(number of the deed, word) of the first deed at fault behind the hall's rows, None where there is none."""
    told = told_of(desk_text(*deeds))
    if isinstance(told, list):
        return None
    name, place, word = told
    if name != "BadDeed":
        raise AssertionError(told)
    return (place - HALL_ROWS, word)


def plain_answer(hall, words, row, way, settings):
    cells = shaped(hall, row, settings)[0]
    ways = ways_of(hall, row, way)
    if words[0] == "tell":
        return " ".join(shape + ":" * bool(places) + ",".join(map(str, places)) for shape, places in cells)
    if words[0] == "lay":
        spots = laid(hall, cells, ways, way)
        return " ".join("%s@%d,%d" % (cell[0], *spot) for cell, spot in zip(cells, spots))
    if words[0] == "cut":
        return " ".join("%d-%d" % line for line in cut_rows(hall, row, settings, int(words[1])))
    if words[0] == "hand":
        return str(letter_at(hall, cells, ways, way, int(words[1]))).lower()
    if words[0] == "rings":
        word, titles = rings_of(hall)
        return " ".join([word, *titles])
    return " ".join(rule[0] for rule, word in zip(hall.rules, verdicts(hall)) if word == "never")


def plain_told(text):
    """What told_of tells, worked out by written forms and by what the other functions tell."""
    rows = [row.split() for row in text.split("\n")]
    hall_text = "\n".join(" ".join(words) if words and words[0] in HALL_WORDS else "" for words in rows)
    if fault_of(hall_text):
        return ("BadHall",) + fault_of(hall_text)
    hall = read_hall(hall_text)
    row, way, settings, told = [], "left", [], []
    for place, words in enumerate(rows):
        if not words or words[0] in HALL_WORDS:
            continue
        if not any(re.fullmatch(form, " ".join(words)) for form in FORMS):
            return ("BadDeed", place, "row")
        if set(words[1:] if words[0] == "row" else words[2:] if words[0] == "change" else []) - set(hall.letters):
            return ("BadDeed", place, "letter")
        if words[0] == "set" and words[1] not in hall.features:
            return ("BadDeed", place, "feature")
        if words[0] == "change" and int(words[1]) >= len(row):
            return ("BadDeed", place, "place")
        if words[0] == "row":
            row, settings = words[1:], []
        elif words[0] == "way":
            way = words[1]
        elif words[0] == "set":
            settings = settings + [(words[1], int(words[2]), int(words[3]), words[4] == "on")]
        elif words[0] == "change":
            row = row[:int(words[1])] + [words[2]] + row[int(words[1]) + 1:]
        else:
            told.append(plain_answer(hall, words, row, way, settings))
    return told


class AnswersTest(unittest.TestCase):
    def check(self, deeds, *expected):
        """That deeds parted by semicolons have these answers."""
        self.assertEqual(answers(desk_text(*deeds.split(";"))), list(expected), deeds)
        self.assertEqual(plain_told(desk_text(*deeds.split(";"))), list(expected), deeds)

    def test_without_questions(self):
        self.assertEqual(answers(""), [])
        self.assertEqual(answers("\n\n  \n"), [])
        self.check("")
        self.check("row l a;way right;set liga 0 1 off;change 0 a;row")

    def test_tell(self):
        self.check("row l;tell", "lam:0")
        self.check("row l a d b;tell", "lamalef:0,1 dot:2 bow:3")
        self.check("row b l a l;tell", "bow:0 lamalef:1,2 lam:3")

    def test_tell_cells_without_letters(self):
        self.check("row l a d;set tails 0 0 on;tell", "lamalef:0,1 tail dot:2")

    def test_tell_places_of_many_figures(self):
        row = "row" + " b" * 11
        self.check(row + " l a;tell", " ".join(f"bow:{place}" for place in range(11)) + " lamalef:11,12")

    def test_lay(self):
        self.check("row b b;lay", "bow@0,0 bow@7,0")
        self.check("row l b d;lay", "lam@0,0 bow@6,0 dot@8,6")
        self.check("row l b d;way right;lay", "lam@7,0 bow@0,0 dot@2,6")
        self.check("row l a d b;set tails 0 1 on;lay", "lamalef@2,0 tail@0,0 dot@-1,-3 bow@11,0")

    def test_lay_numbers_with_a_sign_ahead(self):
        self.check("row d d d;lay", "dot@-1,-3 dot@-2,-2 dot@-3,-1")

    def test_cut(self):
        self.check("row l a b s b;cut 26;cut 25;cut 17;cut 16;cut 0", "0-5", "0-4 4-5", "0-2 2-5", "0-2 2-4 4-5", "0-2 2-4 4-5")
        self.check("row l a l a;cut 18;cut 17;cut 99999", "0-4", "0-2 2-4", "0-4")
        self.check("row l a l a;set liga 2 2 off;cut 20;cut 19", "0-4", "0-2 2-4")

    def test_hand(self):
        self.check("row b b;hand -1;hand 0;hand 6;hand 7;hand 13;hand 14", "none", "0", "0", "1", "1", "none")
        self.check("row l a b;hand 0;hand 4;hand 5;hand 8;hand 9;hand 16", "1", "1", "0", "0", "2", "none")
        self.check("row b;hand 99999;hand -99999", "none", "none")
        self.check("row d b;hand -1;hand 0", "none", "1")

    def test_hand_at_a_place_of_many_figures(self):
        self.check("row" + " b" * 12 + ";hand 77;hand 83", "11", "11")

    def test_rings_and_never(self):
        self.check("rings;never", "ring tailed", "lost")
        text = HALL.replace("> lamalef tail", "> stop tail") + "\nrings\nnever"
        self.assertEqual(answers(text), ["order joined tailed lost late", "lost"])
        text = HALL.replace("> lamalef tail", "> bow tail") + "\nnever\nrings"
        self.assertEqual(answers(text), ["", "order joined tailed lost late"])

    def test_rings_and_never_without_rules(self):
        self.assertEqual(answers("rings\nnever"), ["order", ""])
        self.assertEqual(answers("shape a 1\nletter a none left a\nrings\nnever\nrings"), ["order", "", "order"])

    def test_many_that_never_fire(self):
        text = "shape a 1\nshape b 1\nfeature f on\nrule one f / a / > b\nrule two f / b / > a\nnever"
        self.assertEqual(answers(text), ["one two"])

    def test_a_row_without_letters(self):
        self.check("tell;lay;cut 5;hand 0", "", "", "", "none")
        self.check("row;tell;lay;cut 0;hand 0", "", "", "", "none")
        self.check("row b;row;tell;lay", "", "")
        self.assertEqual(answers("tell\nlay\ncut 5\nhand -5"), ["", "", "", "none"])

    def test_one_text_for_each_question_in_order(self):
        self.check("row b;tell;hand 0;tell;lay;tell", "bow:0", "0", "bow:0", "bow@0,0", "bow:0")

    def test_the_way_is_left_at_first(self):
        self.check("row s b;lay", "stop@0,0 bow@3,0")
        self.check("row s b;way left;lay", "stop@0,0 bow@3,0")
        self.check("row s b;way right;lay", "stop@7,0 bow@0,0")

    def test_the_way_asked_anew(self):
        self.check("way right;row s b;lay;way left;lay;way right;lay;way right;lay",
                   "stop@7,0 bow@0,0", "stop@0,0 bow@3,0", "stop@7,0 bow@0,0", "stop@7,0 bow@0,0")

    def test_the_way_stays_with_another_row_and_with_a_change(self):
        self.check("way right;row b;row s b;lay", "stop@7,0 bow@0,0")
        self.check("way right;row s s;change 1 b;lay;hand 0", "stop@7,0 bow@0,0", "1")

    def test_settings(self):
        self.check("row l a l a;set liga 0 1 off;tell", "lam:0 alef:1 lamalef:2,3")
        self.check("row l a l a;set liga 0 1 off;set liga 1 3 off;set liga 0 99999 on;tell", "lamalef:0,1 lamalef:2,3")
        self.check("row l a l a;set liga 3 0 off;tell", "lamalef:0,1 lamalef:2,3")
        self.check("row l a;tell;set liga 1 1 off;tell;set liga 0 1 on;tell", "lamalef:0,1", "lam:0 alef:1", "lamalef:0,1")

    def test_settings_ahead_of_the_first_row_go_with_it(self):
        self.check("set liga 0 9 off;row l a;tell", "lamalef:0,1")

    def test_another_row_takes_the_settings_away(self):
        self.check("row l a;set liga 0 9 off;tell;row l a;tell", "lam:0 alef:1", "lamalef:0,1")
        self.check("row l a;set liga 0 9 off;row;row l a;tell", "lamalef:0,1")

    def test_a_change_lets_the_settings_stay(self):
        self.check("row l b;set liga 0 9 off;change 1 a;tell;set liga 0 0 on;set liga 1 1 on;tell", "lam:0 alef:1", "lamalef:0,1")

    def test_a_change_at_each_place(self):
        self.check("row b b b;change 0 l;tell;change 1 a;tell;change 2 s;tell;change 1 b;tell",
                   "lam:0 bow:1 bow:2", "lamalef:0,1 bow:2", "lamalef:0,1 stop:2", "lam:0 bow:1 stop:2")
        self.check("row" + " b" * 12 + ";change 11 s;cut 0;tell", "0-12", " ".join(f"bow:{k}" for k in range(11)) + " stop:11")

    def test_a_change_to_the_same_letter(self):
        self.check("row b;change 0 b;tell", "bow:0")

    def test_questions_change_nothing(self):
        questions = ";tell;lay;cut 3;hand 2;rings;never"
        first = answers(desk_text(*("row l a d;set tails 0 5 on;way right" + questions).split(";")))
        twice = answers(desk_text(*("row l a d;set tails 0 5 on;way right" + questions * 3).split(";")))
        self.assertEqual(twice, first * 3)

    def test_kinds_and_apart(self):
        text = desk_text("row l a d", "tell", "lay", "never")
        told = answers(text)
        self.assertEqual((type(told), {type(part) for part in told}), (list, {str}))
        kept = list(told)
        told.reverse()
        told.append("new")
        self.assertEqual(answers(text), kept)


class RowsTest(unittest.TestCase):
    def test_rows_of_the_hall_behind_deeds_that_need_them(self):
        deeds = ["row l a", "set liga 0 0 on", "tell", "change 1 b", "lay", "rings", "never"]
        expected = answers(desk_text(*deeds))
        self.assertEqual(answers("\n".join(deeds + [HALL])), expected)
        self.assertEqual(answers("\n".join(deeds[:3] + [HALL] + deeds[3:])), expected)

    def test_rows_of_the_hall_among_the_deeds_in_their_order(self):
        chance = chance_of(21)
        deeds = ["row l a s b d", "tell", "way right", "lay", "set tails 0 3 on", "tell", "cut 9", "rings", "never", "hand 3"]
        expected = answers(desk_text(*deeds))
        rows = HALL.split("\n")
        for turn in range(100):
            places = sorted(chance.randint(0, len(deeds)) for row in rows)
            mixed = []
            for number in range(len(deeds) + 1):
                mixed += [row for row, place in zip(rows, places) if place == number] + deeds[number:number + 1]
            self.assertEqual(answers("\n".join(mixed)), expected)

    def test_blanks_and_rows_without_words(self):
        deeds = ["row l  a   d", "  tell", "lay   ", "   set    tails 0   5  on ", "", "   ", " tell "]
        plain = ["row l a d", "tell", "lay", "set tails 0 5 on", "tell"]
        self.assertEqual(answers(desk_text(*deeds)), answers(desk_text(*plain)))
        self.assertEqual(answers("\n \n" + HALL.replace(" ", "   ") + "\n\n" + "\n\n".join(deeds)), answers(desk_text(*plain)))

    def test_places_are_counted_over_all_rows(self):
        self.assertEqual(told_of("\n\nno"), ("BadDeed", 2, "row"))
        self.assertEqual(told_of("shape a 1\n\n  \nletter a none left a\ntell\nrow b"), ("BadDeed", 5, "letter"))
        self.assertEqual(told_of("tell\n\ntell\nshape a"), ("BadHall", 3, "row"))

    def test_a_word_of_the_hall_only_as_the_first_word(self):
        rows = "shape shape 1\nletter shape none left shape\nfeature rule on\nrow shape\nset rule 0 0 off\ntell"
        self.assertEqual(answers(rows), ["shape:0"])
        self.assertEqual(told_of("shape tell 1\nletter tell none left tell\nrow tell\ntell"), ["tell:0"])
        self.assertEqual(told_of("shapes a 1"), ("BadDeed", 0, "row"))
        self.assertEqual(told_of("Shape a 1"), ("BadDeed", 0, "row"))


class FormsTest(unittest.TestCase):
    def test_each_deed_in_each_of_its_forms(self):
        for deed in ("row", "row b", "row b d s l a b b", "way left", "way right", "set liga 0 0 on", "set liga 99999 10 off",
                     "change 0 b", "tell", "lay", "cut 0", "cut 7", "cut 99999", "hand 0", "hand 12", "hand -1", "hand -99999",
                     "hand 99999", "rings", "never"):
            self.assertIsNone(deed_fault("row b b", deed), deed)

    def test_another_first_word(self):
        for deed in ("rows b", "Row b", "ROW", "tells", "te", "ring", "nevers", "hands 0", "0", "a", "/", ">", "@tall", "rowb", "-",
                     "#", "row:b", "off", "left", "order", "letters a none left alef"):
            self.assertEqual(deed_fault("row b", deed), (1, "row"), deed)

    def test_a_word_fewer_or_more(self):
        for deed in ("way", "way left left", "way left right", "set", "set liga", "set liga 0", "set liga 0 0", "set liga 0 on",
                     "set liga 0 0 on on", "set liga 0 0 0 on", "change", "change 0", "change b", "change 0 b b", "change 0 0 b",
                     "tell b", "tell 0", "tell tell", "lay 0", "lay left", "cut", "cut 0 0", "hand", "hand 0 0", "rings 0",
                     "rings rings", "never 0", "never never"):
            self.assertEqual(deed_fault("row b", deed), (1, "row"), deed)

    def test_no_names(self):
        for word in ("B", "b_", "b-", "@b", "b:0", "abcdefghijklm", "b,b", "-", ".", "bB", "b/"):
            for deed in (f"row {word}", f"row b {word} b", f"row {word} nope", f"row nope {word}", f"change 0 {word}",
                         f"set {word} 0 0 on"):
                self.assertEqual(deed_fault("row b", deed), (1, "row"), deed)

    def test_names_of_figures_and_of_twelve_signs(self):
        for name in ("0", "00", "123456", "abcdefghijkl", "0a"):
            rows = f"shape {name} 1\nletter {name} none left {name}\nfeature {name} on\nrow {name}\nchange 0 {name}\nset {name} 0 0 off\ntell"
            self.assertEqual(answers(rows), [f"{name}:0"])

    def test_no_numbers(self):
        for word in ("x", "00", "01", "007", "100000", "123456", "-0", "--1", "+1", "1.0", "1,0", "1x", "x1", "-", "0x1", "-01", "-100000",
                     "1-", "on"):
            for deed in (f"set liga {word} 0 on", f"set liga 0 {word} off", f"change {word} b", f"cut {word}", f"hand {word}"):
                self.assertEqual(deed_fault("row b", deed), (1, "row"), deed)

    def test_numbers_with_a_sign_where_none_may_stand(self):
        for word in ("-1", "-5", "-99999"):
            for deed in (f"set liga {word} 0 on", f"set liga 0 {word} off", f"change {word} b", f"cut {word}"):
                self.assertEqual(deed_fault("row b", deed), (1, "row"), deed)
            self.assertIsNone(deed_fault("row b", f"hand {word}"))

    def test_other_words_for_on_off_left_and_right(self):
        for word in ("On", "ON", "true", "1", "0", "yes", "of", "offf", "left"):
            self.assertEqual(deed_fault("row b", f"set liga 0 0 {word}"), (1, "row"), word)
        for word in ("Left", "either", "up", "on", "none", "l", "0", "back"):
            self.assertEqual(deed_fault("row b", f"way {word}"), (1, "row"), word)


class FaultsTest(unittest.TestCase):
    def test_letters_that_the_hall_lacks(self):
        for deed in ("row z", "row b z", "row z b", "row lam", "row bow", "row liga", "row joined", "change 0 z", "change 0 bow"):
            self.assertEqual(deed_fault("row b", deed), (1, "letter"), deed)

    def test_features_that_the_hall_lacks(self):
        for name in ("z", "b", "bow", "tall", "joined", "lig"):
            self.assertEqual(deed_fault("row b", f"set {name} 0 0 on"), (1, "feature"), name)
            self.assertEqual(deed_fault(f"set {name} 0 0 off"), (0, "feature"), name)

    def test_places_that_the_row_lacks(self):
        self.assertEqual(deed_fault("change 0 b"), (0, "place"))
        self.assertEqual(deed_fault("row", "change 0 b"), (1, "place"))
        self.assertEqual(deed_fault("row b b", "change 2 b"), (1, "place"))
        self.assertEqual(deed_fault("row b b", "change 99999 b"), (1, "place"))
        self.assertIsNone(deed_fault("row b b", "change 1 b"))
        self.assertEqual(deed_fault("row b b", "change 1 b", "row b", "change 1 b"), (3, "place"))
        self.assertEqual(deed_fault("row b", "row b b b", "change 2 b", "change 3 b"), (3, "place"))

    def test_the_first_word_that_is_due(self):
        self.assertEqual(deed_fault("row b", "change 1 z"), (1, "letter"))
        self.assertEqual(deed_fault("row b", "change 01 z"), (1, "row"))
        self.assertEqual(deed_fault("row b", "change 1 Z"), (1, "row"))
        self.assertEqual(deed_fault("row b", "change 1 b b"), (1, "row"))
        self.assertEqual(deed_fault("row b", "row z Z"), (1, "row"))
        self.assertEqual(deed_fault("row b", "set z 0 0 of"), (1, "row"))

    def test_the_first_deed_at_fault(self):
        self.assertEqual(deed_fault("row z", "no", "set z 0 0 on", "change 5 b"), (0, "letter"))
        self.assertEqual(deed_fault("no", "row z", "set z 0 0 on", "change 5 b"), (0, "row"))
        self.assertEqual(deed_fault("set z 0 0 on", "row z", "no"), (0, "feature"))
        self.assertEqual(deed_fault("change 5 b", "no", "row z"), (0, "place"))
        self.assertEqual(deed_fault("row b", "tell", "lay", "change 1 b", "no"), (3, "place"))
        self.assertEqual(deed_fault("row b", "tell", "", "cut 5", "hand 0", "rings", "never", "no", "tell"), (7, "row"))

    def test_a_fault_of_the_hall_goes_first(self):
        for deed in ("no", "row z", "set z 0 0 on", "change 5 b", "tell"):
            for row, word in (("shape bow 1", "twice"), ("gap z", "name"), ("letter z none left", "row"), ("rule", "row")):
                text = desk_text(deed, "", row, deed)
                self.assertEqual(told_of(text), ("BadHall", HALL_ROWS + 2, word), (deed, row))

    def test_the_first_fault_of_the_hall(self):
        self.assertEqual(told_of("tell\ngap a\nno\nshape a"), ("BadHall", 1, "name"))
        # The hall's rows keep their order: a letter's shape must be told ahead of it, not ahead of the deeds.
        self.assertEqual(told_of("letter a none left a\ntell\nshape a 1"), ("BadHall", 0, "name"))

    def test_too_many_in_the_hall(self):
        rows = []
        for number in range(61):
            rows += [f"shape s{number} 1", "tell"]
        self.assertEqual(told_of("\n".join(rows)), ("BadHall", 120, "many"))
        self.assertEqual(told_of("\n".join(rows[:120])), [""] * 60)

    def test_the_refusals_and_their_fields(self):
        for text, kind in (("no", BadDeed), ("shape", BadHall), ("row a", BadDeed)):
            with self.assertRaises(HallError) as caught:
                answers(text)
            self.assertIs(type(caught.exception), kind)
            self.assertEqual((type(caught.exception.place), type(caught.exception.word)), (int, str))
            with self.assertRaises(ValueError):
                answers(text)


class SomeTextsTest(unittest.TestCase):
    def some_word(self, chance):
        return chance.choice(("l0", "l1", "l2", "l9", "s0", "f", "g", "0", "1", "5", "-3", "on", "off", "left", "right", "A", "007"))

    def some_deed(self, chance):
        kind = chance.randrange(12)
        if kind < 2:
            return "row " + " ".join(f"l{chance.randrange(4)}" for number in range(chance.randrange(9)))
        if kind < 4:
            return f"set {chance.choice('fg')} {chance.randrange(8)} {chance.randrange(12)} {chance.choice(('on', 'off'))}"
        if kind == 4:
            return f"way {chance.choice(('left', 'right'))}"
        if kind == 5:
            return f"change {chance.randrange(3)} l{chance.randrange(4)}"
        if kind == 6:
            return chance.choice((f"cut {chance.randrange(40)}", f"hand {chance.randint(-5, 40)}"))
        if kind == 7 and chance.random() < 0.1:
            word = chance.choice(("row", "set", "way", "change", "tell", "cut", "hand", "rings", "no"))
            return " ".join([word] + [self.some_word(chance) for number in range(chance.randrange(5))])
        return chance.choice(("tell", "lay", "tell", "lay", "rings", "never", "", "  tell  "))

    def test_against_the_plain_way(self):
        chance = chance_of(22)
        sorts = []
        for turn in range(500):
            rows = some_hall_text(chance, shapes=7, letters=4, rules=4, marks=2, most=(1, 2, 1, 3)).split("\n")
            if chance.random() < 0.1:
                rows.insert(chance.randint(0, len(rows)), chance.choice(("shape s0 1", "gap z", "rule", "feature f on")))
            deeds = [self.some_deed(chance) for number in range(chance.randrange(20))]
            while deeds:
                rows.insert(chance.randint(len(rows) // 2, len(rows)), deeds.pop())
            text = "\n".join(rows)
            expected = plain_told(text)
            self.assertEqual(told_of(text), expected, text)
            sorts.append(expected[0] + expected[2] if isinstance(expected, tuple) else "answers")
        for sort in ("answers", "BadHalltwice", "BadHallname", "BadHallrow", "BadDeedrow", "BadDeedplace"):
            self.assertGreater(sorts.count(sort), 3, sort)
