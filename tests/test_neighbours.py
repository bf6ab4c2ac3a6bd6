import itertools
import unittest

from glyphhall.faces import faces_of
from glyphhall.halls import read_hall
from glyphhall.neighbours import neighbours_of, verdicts
from glyphhall.rules import done
from glyphhall.shaping import shaped
from tests.helpers import check_apart
from tests.some_halls import JOINS, chance_of, some_hall, some_settings

FACES = {"none": ("",), "clear": ("",), "back": ("0", "9"), "both": ("0", "1", "5", "9")}


def joins_hall(joins, shared=False):
    """A hall with letters a, b and so on of these joins, with shapes a, or a0, a1, a5 and a9 (the last one), and so on.

    Where shapes are shared, all letters have those of one sort in common.
    """
    shapes = {}
    letters = []
    for name, join in zip("abcdefgh", joins):
        faces = [("x" if shared else name) + face for face in FACES[join]]
        shapes.update(dict.fromkeys(faces))
        letters.append(f"letter {name} {join} left " + " ".join(faces))
    return read_hall("\n".join([f"shape {shape} 1" for shape in shapes] + letters))


def plain_hall(*rules, shapes="abcxyz", letters="abc", more=()):
    """A hall with shapes and with letters none of the one shape of their name, so that all pairs of these may stand."""
    rows = [f"shape {name} 1" for name in shapes] + [f"letter {name} none left {name}" for name in letters]
    rows += ["class ab a b", "feature f on", "feature g off"] + list(more)
    return read_hall("\n".join(rows + [f"rule r{number} f {rule}" for number, rule in enumerate(rules)]))


def row_pairs(shapes):
    """The pairs that stand in a row of shapes."""
    whole = [""] + list(shapes) + [""]
    return {(whole[place], whole[place + 1]) for place in range(len(whole) - 1)}


def rows_of(hall, most):
    """All rows of one letter or more, up to so many."""
    for count in range(1, most + 1):
        yield from itertools.product(hall.letters, repeat=count)


def face_pairs(hall, most=5):
    """The pairs in the faces of all short rows."""
    pairs = set()
    for row in rows_of(hall, most):
        pairs |= row_pairs(faces_of(hall, list(row)))
    return pairs


def fitting(hall, item):
    return hall.classes[item[1:]] if item[0] == "@" else (item,)


def plain_chains(hall, rule, pairs):
    """All chains of a rule in a set of pairs, one by one."""
    shapes = {shape for pair in pairs for shape in pair} - {""}
    items = rule[2] + rule[3] + rule[4]
    chains = [(shape,) for shape in shapes if shape in fitting(hall, items[0])]
    for item in items[1:]:
        chains = [chain + (shape,) for chain in chains for shape in fitting(hall, item) if (chain[-1], shape) in pairs]
    return chains


def plain_behind(hall, rule, pairs):
    """The neighbours behind a rule just as point 13 is worded: pairs put in as long as one is lacking."""
    pairs = set(pairs)
    before, core, after, told = rule[2:]
    while True:
        due = set()
        for chain in plain_chains(hall, rule, pairs):
            first, last = chain[len(before)], chain[len(before) + len(core) - 1]
            due |= {(x, told[0]) for x, y in pairs if y == first}
            due |= {(told[-1], y) for x, y in pairs if x == last}
            due |= {(told[place], told[place + 1]) for place in range(len(told) - 1)}
        if due <= pairs:
            return pairs
        pairs |= due


def plain_neighbours(hall, most=4):
    told = [face_pairs(hall, most)]
    for rule in hall.rules:
        told.append(plain_behind(hall, rule, told[-1]))
    return told


def pairs_of(text):
    """The sorted pairs that a text tells: "-a ab b-" as ("", "a"), ("a", "b"), ("b", "")."""
    return sorted(tuple("" if sign == "-" else sign for sign in word) for word in text.split())


class FacePairsTest(unittest.TestCase):
    def check(self, hall, pairs):
        self.assertEqual(neighbours_of(hall), [sorted(pairs)])

    def test_no_letters(self):
        self.check(read_hall(""), [])
        self.check(read_hall("shape a 1\nclass k a\nfeature f on"), [])

    def test_one_letter_of_each_join(self):
        self.check(joins_hall(["none"]), [("", "a"), ("a", ""), ("a", "a")])
        self.check(joins_hall(["clear"]), [("", "a"), ("a", ""), ("a", "a")])
        self.check(joins_hall(["back"]), [("", "a0"), ("a0", ""), ("a0", "a0")])
        self.check(joins_hall(["both"]), [
            ("", "a0"), ("", "a1"), ("a0", ""), ("a1", "a5"), ("a1", "a9"), ("a5", "a5"), ("a5", "a9"), ("a9", ""),
        ])

    def test_a_letter_none_beside_one_that_joins(self):
        self.check(joins_hall(["both", "none"]), [
            ("", "a0"), ("", "a1"), ("", "b"),
            ("a0", ""), ("a0", "b"), ("a1", "a5"), ("a1", "a9"), ("a5", "a5"), ("a5", "a9"), ("a9", ""), ("a9", "b"),
            ("b", ""), ("b", "a0"), ("b", "a1"), ("b", "b"),
        ])

    def test_a_letter_back_beside_one_that_joins(self):
        self.check(joins_hall(["both", "back"]), [
            ("", "a0"), ("", "a1"), ("", "b0"),
            ("a0", ""), ("a1", "a5"), ("a1", "a9"), ("a1", "b9"), ("a5", "a5"), ("a5", "a9"), ("a5", "b9"), ("a9", ""),
            ("b0", ""), ("b0", "a0"), ("b0", "a1"), ("b0", "b0"), ("b9", ""), ("b9", "a0"), ("b9", "a1"), ("b9", "b0"),
        ])

    def test_a_clear_letter_is_a_neighbour_of_letters_that_join_over_it(self):
        self.check(joins_hall(["both", "clear"]), [
            ("", "a0"), ("", "a1"), ("", "b"),
            ("a0", ""), ("a0", "b"), ("a1", "a5"), ("a1", "a9"), ("a1", "b"), ("a5", "a5"), ("a5", "a9"), ("a5", "b"),
            ("a9", ""), ("a9", "b"),
            ("b", ""), ("b", "a0"), ("b", "a1"), ("b", "a5"), ("b", "a9"), ("b", "b"),
        ])

    def test_clear_letters_alone(self):
        self.check(joins_hall(["clear", "clear"]), pairs_of("-a -b a- b- aa ab ba bb"))

    def test_letters_with_shapes_in_common(self):
        self.check(read_hall("shape a 1\nletter k none left a\nletter l clear left a"), pairs_of("-a a- aa"))
        self.check(read_hall("shape a 1\nletter k both left a a a a"), pairs_of("-a a- aa"))

    def test_all_halls_of_up_to_three_letters_against_all_short_rows(self):
        for count in (1, 2, 3):
            for joins in itertools.product(JOINS, repeat=count):
                for shared in (False, True):
                    hall = joins_hall(joins, shared)
                    self.check(hall, face_pairs(hall, 4))

    def test_rows_of_several_clear_letters_one_behind_the_other(self):
        for joins in itertools.product(("both", "back", "none", "clear"), repeat=2):
            hall = joins_hall(joins + ("clear",))
            self.check(hall, face_pairs(hall, 6))
            told = neighbours_of(hall)[0]
            for clears in range(1, 5):
                for one, other in itertools.product("ab", repeat=2):
                    for row in (one + "c" * clears + other, "c" * clears + one + other, one + other + "c" * clears):
                        self.assertLessEqual(row_pairs(faces_of(hall, list(row))), set(told), (joins, row))

    def test_many_letters(self):
        hall = joins_hall(["both", "both", "back", "back", "none", "clear", "clear", "none"])
        self.check(hall, face_pairs(hall, 4))

    def test_the_most_letters_and_shapes(self):
        rows = [f"shape s{number} 1" for number in range(60)]
        for number in range(24):
            faces = " ".join(f"s{(number * 4 + face) % 60}" for face in range(4))
            rows.append(f"letter l{number} both left {faces}")
        hall = read_hall("\n".join(rows))
        pairs = set()
        for one, other in itertools.product(range(24), repeat=2):
            for row in ([one], [one, other], [one, other, 0], [0, one, other], [0, one, other, 0]):
                pairs |= row_pairs(faces_of(hall, [f"l{number}" for number in row]))
        self.check(hall, pairs)


class BehindRulesTest(unittest.TestCase):
    def check(self, hall, *texts):
        """That there is one list of pairs ahead of each rule and one behind the last one, as the texts tell."""
        self.assertEqual(neighbours_of(hall), [pairs_of(text) for text in texts])

    def test_no_rules_one_list(self):
        self.check(plain_hall(letters="a"), "-a a- aa")

    def test_a_rule_without_a_chain_leaves_the_set_as_it_is(self):
        self.check(plain_hall("/ x / > y", letters="a"), "-a a- aa", "-a a- aa")
        self.check(plain_hall("x / a / > y", letters="a"), "-a a- aa", "-a a- aa")
        self.check(plain_hall("/ a / x > y", letters="a"), "-a a- aa", "-a a- aa")
        self.check(plain_hall("/ a x / > y z", letters="a"), "-a a- aa", "-a a- aa")
        self.check(plain_hall("/ a / > x", letters=""), "", "")

    def test_told_shapes_at_the_edges_and_inside(self):
        self.check(plain_hall("/ a / > x", letters="a"), "-a a- aa", "-a a- aa -x x- ax xa xx")
        self.check(plain_hall("/ a / > x y", letters="a"), "-a a- aa", "-a a- aa -x ax yx ya y- xy")
        self.check(plain_hall("/ a / > x y z", letters="a"), "-a a- aa", "-a a- aa -x ax zx za z- xy yz")

    def test_a_core_of_two_items(self):
        self.check(plain_hall("/ a b / > x", letters="ab"), "-a -b a- b- aa ab ba bb",
                   "-a -b a- b- aa ab ba bb -x x- ax bx xa xb xx")

    def test_where_few_pairs_may_stand(self):
        rows = "\n".join([f"shape {name} 1" for name in "ofmlxyz"] + ["letter a both left o f m l", "feature f on", ""])
        first = "-o o- -f fm fl mm ml l-"
        self.check(read_hall(rows + "rule r f / m / > x"), first, first + " fx mx xm xl xx")
        self.check(read_hall(rows + "rule r f f / m / l > x"), first, first + " fx mx xm xl xx")
        self.check(read_hall(rows + "rule r f / f m / > x"), first, first + " -x xm xl")
        self.check(read_hall(rows + "rule r f / f m l / > x y"), first, first + " -x xy y-")
        self.check(read_hall(rows + "rule r f / f l / > x y z"), first, first + " -x xy yz z-")
        self.check(read_hall(rows + "rule r f f / l / > x"), first, first + " fx mx x-")
        self.check(read_hall(rows + "rule r f f m m / l / > x"), first, first + " fx mx x-")
        self.check(read_hall(rows + "rule r f / f / m m l > x"), first, first + " -x xm xl")
        self.check(read_hall(rows + "rule r f / o / > x"), first, first + " -x x-")
        self.check(read_hall(rows + "rule r f o / l / > x"), first, first)
        self.check(read_hall(rows + "rule r f / m f / > x"), first, first)
        self.check(read_hall(rows + "rule r f l / o / > x\nrule t f / o / > y"), first, first, first + " -y y-")

    def test_each_shape_of_a_class_only_where_it_stands_in_a_chain(self):
        rows = [f"shape {name} 1" for name in "ofmlxy"] + ["letter a both left o f m l", "class k o f m x", "feature f on"]
        first = "-o o- -f fm fl mm ml l-"
        self.check(read_hall("\n".join(rows + ["rule r f / @k / l > y"])), first, first + " -y fy my yl ym yy")
        self.check(read_hall("\n".join(rows + ["rule r f / @k @k / > y"])), first, first + " -y fy my ym yl yy")
        self.check(read_hall("\n".join(rows + ["rule r f f / @k / @k > y"])), first, first + " fy my ym yl yy")

    def test_told_shapes_that_make_new_chains_of_the_same_rule(self):
        hall = plain_hall("/ @k / > x y", letters="a", more=["class k a y"])
        self.check(hall, "-a a- aa", "-a a- aa -x ax xy yx ya y- xx")
        hall = plain_hall("/ @k / > x y", letters="a", more=["class k a x"])
        self.check(hall, "-a a- aa", "-a a- aa -x ax xy yx ya y- yy")
        hall = plain_hall("x / @k / > y x", letters="ax", more=["class k a y"])
        self.assertEqual(set(neighbours_of(hall)[1]), plain_behind(hall, hall.rules[0], neighbours_of(hall)[0]))

    def test_chains_in_many_steps(self):
        # First p a alone is a chain, then p u, whose shape behind makes (w, v), then w v, which makes (u, u) and (w, w).
        more = ["class b p w", "class k a u v"]
        hall = plain_hall("@b / @k / > u v w", shapes="abpuvw", letters="ap", more=more)
        self.assertEqual(set(neighbours_of(hall)[1]), plain_behind(hall, hall.rules[0], face_pairs(hall)))
        self.assertLessEqual({("u", "u"), ("w", "w")}, set(neighbours_of(hall)[1]))
        hall = read_hall("\n".join(
            [f"shape {name} 1" for name in "abcdeuv"]
            + ["letter l both left a b c d", "class k b c u", "class n c d v u", "feature f on", "rule r f @k / @n / > u v"]
        ))
        self.assertEqual(set(neighbours_of(hall)[1]), plain_behind(hall, hall.rules[0], face_pairs(hall)))

    def test_one_rule_behind_the_other(self):
        hall = plain_hall("/ a / > x", "/ x / > y", "x / y / > z", letters="a")
        first = "-a a- aa"
        second = first + " -x x- ax xa xx"
        third = second + " -y y- ay ya xy yx yy"
        self.check(hall, first, second, third, third + " xz yz az zz -z zx zy za z-")

    def test_a_later_rule_sees_shapes_that_were_taken_too(self):
        hall = plain_hall("/ a / > x", "/ a / > y", letters="a")
        self.assertIn(("x", "y"), neighbours_of(hall)[2])
        self.assertEqual(verdicts(hall), ["may", "may"])

    def test_the_settings_and_features_do_not_matter(self):
        rows = ["shape a 1", "shape x 1", "letter a none left a", "feature f off", "rule r f / a / > x"]
        self.check(read_hall("\n".join(rows)), "-a a- aa", "-a a- aa -x x- ax xa xx")

    def test_sizes_of_all_parts_against_the_plain_way(self):
        chance = chance_of(13)
        for before, core, after, told in itertools.product(range(4), range(1, 5), range(4), range(1, 4)):
            items = ["a", "b", "@ab", "@ab", "@ax", "@all", "x"]
            parts = [" ".join(chance.choice(items) for number in range(size)) for size in (before, core, after)]
            shapes = " ".join(chance.choice("abxy") for number in range(told))
            more = ["class ax a x", "class all a b x"]
            for letters in ("a", "ab"):
                hall = plain_hall(" / ".join(parts) + " > " + shapes, letters=letters, more=more)
                first = face_pairs(hall, 2)
                expected = [sorted(first), sorted(plain_behind(hall, hall.rules[0], first))]
                self.assertEqual(neighbours_of(hall), expected, hall.rules)

    def test_some_halls_against_the_plain_way(self):
        chance = chance_of(14)
        grown = 0
        for turn in range(300):
            counts = {"shapes": chance.randint(1, 7), "letters": chance.randint(0, 4), "rules": chance.randint(0, 5)}
            hall = some_hall(chance, most=chance.choice(((0, 2, 1, 3), (1, 2, 0, 2), (2, 3, 2, 3))), **counts)
            expected = [sorted(pairs) for pairs in plain_neighbours(hall)]
            self.assertEqual(neighbours_of(hall), expected)
            grown += expected[0] != expected[-1]
        self.assertGreater(grown, 40)

    def test_all_that_stands_in_shaped_rows_is_told(self):
        chance = chance_of(15)
        for turn in range(60):
            hall = some_hall(chance, rules=4, most=(1, 2, 1, 3))
            told = neighbours_of(hall)
            for row in rows_of(hall, 4):
                settings = some_settings(chance, hall)
                cells = [(shape, (place,)) for place, shape in enumerate(faces_of(hall, list(row)))]
                for rule, behind in zip(hall.rules, told[1:]):
                    cells = done(hall, rule, cells, settings)[0]
                    self.assertLessEqual(row_pairs([shape for shape, letters in cells]), set(behind))

    def test_sorted_and_each_pair_once(self):
        chance = chance_of(16)
        for turn in range(30):
            hall = some_hall(chance)
            told = neighbours_of(hall)
            self.assertEqual(len(told), len(hall.rules) + 1)
            for pairs in told:
                self.assertEqual(pairs, sorted(set(pairs)))

    def test_kinds(self):
        told = neighbours_of(plain_hall("/ a / > x", "/ y / > z"))
        self.assertEqual((type(told), {type(pairs) for pairs in told}), (list, {list}))
        kinds = {(type(pair), len(pair), type(pair[0]), type(pair[1])) for pairs in told for pair in pairs}
        self.assertEqual(kinds, {(tuple, 2, str, str)})

    def test_apart(self):
        # A rule that changes nothing and the next one have like lists, but not the same one.
        for hall in (plain_hall(), plain_hall("/ a / > x", "/ y / > z", "/ b / > y"), read_hall("")):
            check_apart(self, neighbours_of, hall)
        told = neighbours_of(plain_hall("/ y / > z", "/ y / > z"))
        told[0].append("new")
        self.assertEqual(told[1], told[2])
        self.assertNotIn("new", told[1])
        told[1].append("new")
        self.assertNotIn("new", told[2])


class VerdictsTest(unittest.TestCase):
    def check(self, words, *rules, **more):
        self.assertEqual(verdicts(plain_hall(*rules, **more)), words.split(), rules)

    def test_no_rules(self):
        self.assertEqual(verdicts(read_hall("")), [])
        self.check("")

    def test_no_letters(self):
        self.check("never never", "/ a / > x", "/ x / > a", letters="")

    def test_chains_of_one_shape(self):
        self.check("may", "/ a / > x")
        self.check("never", "/ x / > a")
        self.check("may", "/ @ab / > x", letters="b")
        self.check("never", "/ @ab / > x", letters="c")

    def test_chains_of_many_shapes(self):
        self.check("may never never", "a b c / a b c a / a b c > x", "a b c / a b c a / a b y > x", "z b / a / > x")
        self.check("never may", "a b c / a z c a / a b c > x", "@ab @ab @ab / @ab @ab @ab @ab / @ab @ab @ab > x")

    def test_shapes_that_stand_but_not_beside_one_another(self):
        rows = [f"shape {name} 1" for name in "ofmlx"] + ["letter a both left o f m l", "class k o l", "feature f on"]
        rules = {
            "/ f m / > x": "may", "/ f o / > x": "never", "f / m / l > x": "may", "f / l / m > x": "never",
            "/ f m m m / > x": "may", "f f / m / > x": "never", "/ @k @k / > x": "never", "/ f @k / > x": "may",
            "f m l / @k / > x": "never", "m m m / m m m m / m m l > x": "may", "m m m / m m m m / l m m > x": "never",
        }
        for rule, word in rules.items():
            self.assertEqual(verdicts(read_hall("\n".join(rows + ["rule r f " + rule]))), [word], rule)

    def test_a_chain_only_behind_an_earlier_rules_told_shapes(self):
        self.check("never may may", "/ x / > y", "/ a / > x", "/ x / > y")
        self.check("may never may may", "/ a / > x y", "/ y z / > a", "/ y / > y z", "/ y z / > a")
        self.check("may may", "/ a / > x", "x / x / x > y", letters="a")

    def test_a_rule_that_would_only_follow_itself(self):
        self.check("never", "/ x / > x")
        self.check("never", "x / a / > x")

    def test_the_features_do_not_matter(self):
        rows = ["shape a 1", "shape x 1", "letter a none left a", "feature g off", "rule r g / a / > x", "rule s g / x / > a"]
        self.assertEqual(verdicts(read_hall("\n".join(rows))), ["may", "may"])

    def test_never_just_where_there_is_no_chain(self):
        chance = chance_of(17)
        words = []
        for turn in range(150):
            hall = some_hall(chance, shapes=chance.randint(2, 7), letters=chance.randint(0, 3), rules=chance.randint(0, 5))
            told = plain_neighbours(hall)
            expected = ["may" if plain_chains(hall, rule, pairs) else "never" for rule, pairs in zip(hall.rules, told)]
            self.assertEqual(verdicts(hall), expected)
            words += expected
        self.assertGreater(min(words.count("may"), words.count("never")), 50)

    def test_never_is_done_in_no_short_row(self):
        chance = chance_of(18)
        never = 0
        for turn in range(80):
            hall = some_hall(chance, rules=4, most=(1, 2, 1, 3))
            words = verdicts(hall)
            never += words.count("never")
            for row in rows_of(hall, 4):
                everywhere = [(feature, 0, 9, True) for feature in hall.features]
                for settings in (everywhere, some_settings(chance, hall)):
                    counts = shaped(hall, list(row), settings)[1]
                    for word, count in zip(words, counts):
                        self.assertTrue(word == "may" or count == 0)
        self.assertGreater(never, 40)

    def test_kinds_and_apart(self):
        hall = plain_hall("/ a / > x", "/ y / > z")
        told = verdicts(hall)
        self.assertEqual((type(told), {type(word) for word in told}), (list, {str}))
        check_apart(self, verdicts, hall)
        check_apart(self, verdicts, read_hall(""))
