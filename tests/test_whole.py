"""All promises once more over large halls and long rows, with one hall asked for everything."""

import copy
import unittest

from glyphhall.cutting import cut_rows
from glyphhall.desk import answers
from glyphhall.errors import NoFeature, NoLetter, NoRow
from glyphhall.faces import faces_of
from glyphhall.halls import read_hall
from glyphhall.halltext import hall_text
from glyphhall.hand import letter_at, spans_of
from glyphhall.laying import laid, width_of
from glyphhall.neighbours import neighbours_of, verdicts
from glyphhall.readback import read_back
from glyphhall.rings import feeds, rings_of
from glyphhall.rules import done, fits
from glyphhall.shaping import changed, shaped
from glyphhall.ways import seen_order, ways_of
from tests.helpers import fields_of, letters_in, spoil
from tests.some_halls import chance_of, some_hall_text, some_settings, some_words
from tests.test_cutting import plain_cut
from tests.test_desk import plain_told, told_of
from tests.test_hand import plain_spans
from tests.test_laying import plain_laid
from tests.test_neighbours import plain_behind, plain_chains, row_pairs
from tests.test_rings import has_ring, plain_feeds
from tests.test_shaping import plain_alike, plain_shaped
from tests.test_ways import plain_order, plain_ways

FULL = {"shapes": 60, "letters": 24, "rules": 30, "marks": 12, "classes": 20, "features": "fabcdehijg"}
TURNS = 6


def full_halls(seed, most=(1, 2, 1, 2)):
    """Some full halls, and the chance that made them."""
    chance = chance_of(seed)
    for turn in range(TURNS):
        yield chance, read_hall(some_hall_text(chance, most=most, **FULL))


def long_row(chance, hall, count=200):
    # Few letters, so that rules find their shapes beside one another.
    return some_words(chance, chance.sample(list(hall.letters), 6), count)


def plain_faces(hall, letters):
    """The faces just as point 6 is worded."""
    told = []
    for place, name in enumerate(letters):
        join, way, shapes = hall.letters[name]
        ahead = [hall.letters[other][0] for other in letters[:place] if hall.letters[other][0] != "clear"]
        behind = [hall.letters[other][0] for other in letters[place + 1:] if hall.letters[other][0] != "clear"]
        joined = ahead[-1:] == ["both"] and join in ("both", "back")
        joining = join == "both" and behind[:1] in (["both"], ["back"])
        faces = {(False, False): 0, (False, True): 1, (True, True): 2, (True, False): -1}
        told.append(shapes[faces[(joined, joining)]])
    return told


class FullHallsTest(unittest.TestCase):
    def test_as_full_as_may_be(self):
        for chance, hall in full_halls(1):
            sizes = [len(field) for field in (hall.shapes, hall.letters, hall.classes, hall.features, hall.rules)]
            self.assertEqual(sizes, [60, 24, 20, 10, 30])

    def test_written_and_read(self):
        for chance, hall in full_halls(2, (3, 4, 3, 3)):
            written = hall_text(hall)
            self.assertEqual(fields_of(read_hall(written)), fields_of(hall))
            self.assertEqual(hall_text(read_hall(written)), written)

    def test_faces(self):
        for chance, hall in full_halls(3):
            for count in (1, 20, 200):
                letters = long_row(chance, hall, count)
                self.assertEqual(faces_of(hall, letters), plain_faces(hall, letters))

    def test_read_back(self):
        chance = chance_of(4)
        rows = [f"shape s{number} 1" for number in range(60)]
        joins = ["both"] * 11 + ["back"] * 4 + ["none"] * 4 + ["clear"] * 4
        shapes = iter(range(60))
        for number, join in enumerate(joins):
            faces = [f"s{next(shapes)}" for face in range({"both": 4, "back": 2}.get(join, 1))]
            rows.append(f"letter l{number} {join} left " + " ".join(faces))
        hall = read_hall("\n".join(rows))
        for turn in range(20):
            letters = some_words(chance, list(hall.letters), 200)
            faces = faces_of(hall, letters)
            self.assertEqual(read_back(hall, faces), letters)
            place = chance.randrange(200)
            other = chance.choice(list(hall.shapes))
            changed_faces = faces[:place] + [other] + faces[place + 1:]
            owners = [name for shape in changed_faces for name, letter in hall.letters.items() if shape in letter[2]]
            if len(owners) == 200 and plain_faces(hall, owners) == changed_faces:
                self.assertEqual(read_back(hall, changed_faces), owners)
            else:
                with self.assertRaises(NoRow):
                    read_back(hall, changed_faces)

    def test_shaped(self):
        fired = 0
        for chance, hall in full_halls(5):
            for count in (1, 7, 60, 200):
                letters = long_row(chance, hall, count)
                for settings in ([], some_settings(chance, hall, 200, 200)):
                    cells, counts = shaped(hall, letters, settings)
                    self.assertEqual((cells, counts), plain_shaped(hall, letters, settings))
                    self.assertEqual(letters_in(cells), list(range(count)))
                    fired += sum(counts)
        self.assertGreater(fired, 500)

    def test_changed(self):
        for chance, hall in full_halls(6):
            letters = long_row(chance, hall, 60)
            settings = some_settings(chance, hall, 20, 60)
            for place in chance.sample(range(60), 6):
                letter = chance.choice(letters)
                row = letters[:place] + [letter] + letters[place + 1:]
                old, cells = plain_shaped(hall, letters, settings)[0], plain_shaped(hall, row, settings)[0]
                self.assertEqual(changed(hall, letters, settings, place, letter), (cells, *plain_alike(old, cells)))

    def test_neighbours_and_verdicts(self):
        for chance, hall in full_halls(7, (1, 2, 1, 3)):
            told = neighbours_of(hall)
            words = verdicts(hall)
            self.assertEqual((len(told), len(words)), (31, 30))
            for number in chance.sample(range(30), 10):
                rule = hall.rules[number]
                self.assertEqual(told[number + 1], sorted(plain_behind(hall, rule, told[number])))
                self.assertEqual(words[number], "may" if plain_chains(hall, rule, set(told[number])) else "never")
            self.check_rows_within(chance, hall, told, words)

    def check_rows_within(self, chance, hall, told, words):
        """That all pairs of a row, behind each rule, are told, and that no rule is done that never fires."""
        for count in (1, 5, 100):
            cells = [(shape, (place,)) for place, shape in enumerate(faces_of(hall, long_row(chance, hall, count)))]
            settings = [(feature, 0, 200, True) for feature in hall.features]
            self.assertLessEqual(row_pairs([shape for shape, letters in cells]), set(told[0]))
            for rule, pairs, word in zip(hall.rules, told[1:], words):
                cells, times = done(hall, rule, cells, settings)
                self.assertLessEqual(row_pairs([shape for shape, letters in cells]), set(pairs))
                self.assertTrue(word == "may" or times == 0)

    def test_feeds_and_rings(self):
        for chance, hall in full_halls(8, (1, 1, 1, 1)):
            for one, other in ((chance.choice(hall.rules), chance.choice(hall.rules)) for number in range(100)):
                self.assertIs(feeds(hall, one, other), plain_feeds(hall, one, other))
            rules = {rule[0]: rule for rule in hall.rules}
            word, titles = rings_of(hall)
            self.assertEqual(word, "ring" if has_ring(hall) else "order")
            self.assertEqual(len(set(titles)), len(titles))
            if word == "ring":
                for one, other in zip(titles, titles[1:] + titles[:1]):
                    self.assertTrue(plain_feeds(hall, rules[one], rules[other]))

    def test_ways_order_places_and_spans(self):
        for chance, hall in full_halls(9):
            for count in (1, 30, 200):
                letters = long_row(chance, hall, count)
                cells = shaped(hall, letters, [])[0]
                for way in ("left", "right"):
                    ways = ways_of(hall, letters, way)
                    self.assertEqual(ways, plain_ways(hall, letters, way))
                    self.assertEqual(seen_order(hall, cells, ways, way), plain_order(hall, cells, ways, way))
                    self.assertEqual(laid(hall, cells, ways, way), plain_laid(hall, cells, ways, way))
                    self.assertEqual(spans_of(hall, cells, ways, way), plain_spans(hall, cells, ways, way))

    def test_the_hand_and_the_width(self):
        for chance, hall in full_halls(10):
            letters = long_row(chance, hall, 40)
            cells = shaped(hall, letters, [])[0]
            ways = ways_of(hall, letters, "right")
            spans = plain_spans(hall, cells, ways, "right")
            width = width_of(hall, cells)
            self.assertEqual(width, sum(hall.shapes[shape] for shape, places in cells if shape not in hall.marks))
            for x in range(-1, width + 1, 3):
                there = [place for place, span in enumerate(spans) if span[0] <= x < span[1]]
                self.assertEqual([letter_at(hall, cells, ways, "right", x)], there or [None])

    def test_cut(self):
        for chance, hall in full_halls(11):
            letters = long_row(chance, hall, 24)
            settings = some_settings(chance, hall, 5, 24)
            for limit in (0, 30, 70):
                self.assertEqual(cut_rows(hall, letters, settings, limit), plain_cut(hall, letters, settings, limit))

    def test_desk(self):
        for chance, hall in full_halls(12):
            deeds = ["row " + " ".join(long_row(chance, hall))]
            for number in range(20):
                first = chance.randrange(150)
                deeds.append(f"set {chance.choice(list(hall.features))} {first} {first + 50} {chance.choice(('on', 'off'))}")
                deeds.append(f"change {chance.randrange(200)} {chance.choice(list(hall.letters))}")
            deeds += ["tell", "lay", "hand 7", "way right", "tell", "lay", "hand 100", "rings", "never", "row l1 l2", "cut 9"]
            rows = hall_text(hall).split("\n")
            text = "\n".join(deeds[:20] + rows[:60] + deeds[20:] + rows[60:])
            self.assertEqual(answers(text), plain_told(text))
            self.assertEqual(told_of(text + "\nrow l1\nchange 1 l1"), ("BadDeed", text.count("\n") + 2, "place"))

    def test_refusals(self):
        for chance, hall in full_halls(13):
            letters = long_row(chance, hall)
            letters[150] = "none"
            for asked in (lambda: faces_of(hall, letters), lambda: shaped(hall, letters, [("none", 0, 0, True)]),
                          lambda: ways_of(hall, letters, "left"), lambda: cut_rows(hall, letters, [("none", 0, 0, True)], 5)):
                with self.assertRaises(NoLetter) as caught:
                    asked()
                self.assertEqual(caught.exception.place, 150)
            for asked in (lambda: shaped(hall, [], [("none", 0, 0, True)]), lambda: cut_rows(hall, [], [("none", 0, 0, True)], 5)):
                with self.assertRaises(NoFeature):
                    asked()


class OneHallTest(unittest.TestCase):
    """Whatever is asked and whatever the asker does with what is told: all is told again as it was."""

    def questions(self, hall, letters, settings, cells, ways):
        return [
            lambda: faces_of(hall, letters),
            lambda: hall_text(hall),
            lambda: fits(hall, "@c0", "s1"),
            lambda: done(hall, hall.rules[0], cells, settings),
            lambda: shaped(hall, letters, settings),
            lambda: changed(hall, letters, settings, 1, letters[0]),
            lambda: neighbours_of(hall),
            lambda: verdicts(hall),
            lambda: feeds(hall, hall.rules[0], hall.rules[1]),
            lambda: rings_of(hall),
            lambda: ways_of(hall, letters, "right"),
            lambda: seen_order(hall, cells, ways, "right"),
            lambda: laid(hall, cells, ways, "right"),
            lambda: width_of(hall, cells),
            lambda: spans_of(hall, cells, ways, "right"),
            lambda: letter_at(hall, cells, ways, "right", 3),
            lambda: cut_rows(hall, letters, settings, 20),
            lambda: answers(hall_text(hall) + "\nrow " + " ".join(letters) + "\ntell\nlay\nrings\nnever"),
        ]

    def test_all_questions_in_any_order(self):
        chance = chance_of(14)
        for turn in range(5):
            hall = read_hall(some_hall_text(chance, shapes=12, letters=6, rules=6, marks=3, most=(1, 2, 1, 3)))
            letters = long_row(chance, hall, 12)
            settings = some_settings(chance, hall, 4, 12)
            given = (letters, settings, shaped(hall, letters, settings)[0], ways_of(hall, letters, "right"))
            fields, kept = fields_of(hall), copy.deepcopy(given)
            questions = self.questions(hall, *given)
            first = [copy.deepcopy(asked()) for asked in questions]
            for number in chance.sample(range(len(questions)), len(questions)) * 2:
                told = questions[number]()
                self.assertEqual(told, first[number])
                spoil(told)
                self.assertEqual((fields_of(hall), given), (fields, kept))
            self.assertEqual([asked() for asked in questions], first)
