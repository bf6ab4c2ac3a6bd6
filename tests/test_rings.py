import itertools
import unittest

from glyphhall.halls import read_hall
from glyphhall.rings import feeds, rings_of
from tests.helpers import check_apart
from tests.some_halls import chance_of, some_hall

SHAPES = "abcdefgh"


def rule_of(title, core, told):
    """A rule's tuple with these items of its core and these told shapes."""
    return (title, "f", (), tuple(core.split()), (), tuple(told.split()))


def rules_hall(*rules, shapes=SHAPES):
    """A hall with a rule "CORE > TOLD" each, of the titles r0, r1 and so on."""
    rows = [f"shape {name} 1" for name in shapes] + ["class ab a b", "class a c d", "feature f on"]
    for number, rule in enumerate(rules):
        core, told = rule.split(">")
        rows.append(f"rule r{number} f / {core} / > {told}")
    return read_hall("\n".join(rows))


def plain_feeds(hall, one, other):
    fitting = set()
    for item in other[3]:
        fitting |= set(hall.classes[item[1:]]) if item[0] == "@" else {item}
    return bool(fitting & set(one[5]))


def has_ring(hall):
    """Whether a rule feeds itself in some count of steps."""
    titles = [rule[0] for rule in hall.rules]
    reach = {(one[0], other[0]) for one in hall.rules for other in hall.rules if plain_feeds(hall, one, other)}
    for middle, one, other in itertools.product(titles, repeat=3):
        if (one, middle) in reach and (middle, other) in reach:
            reach.add((one, other))
    return any((title, title) in reach for title in titles)


class FeedsTest(unittest.TestCase):
    def check(self, expected, told, core, hall=None):
        one, other = rule_of("one", "h", told), rule_of("other", core, "h")
        self.assertIs(feeds(hall or rules_hall(), one, other), expected, (told, core))

    def test_by_name(self):
        self.check(True, "a", "a")
        self.check(False, "a", "b")
        for place in range(3):
            for at in range(4):
                told, core = ["b", "b", "b"], ["c", "c", "c", "c"]
                told[place] = core[at] = "a"
                self.check(True, " ".join(told), " ".join(core))
        self.check(False, "a b c", "d e f g")

    def test_by_class(self):
        self.check(True, "a", "@ab")
        self.check(True, "c b", "d @ab")
        self.check(False, "c", "@ab")
        self.check(False, "a", "@a")
        self.check(True, "c", "@a")
        self.check(True, "e f d", "g h g @a")

    def test_only_the_core_of_the_other_one_counts(self):
        hall = rules_hall()
        one = ("one", "f", ("e",), ("f",), ("g",), ("a", "b"))
        self.assertIs(feeds(hall, one, ("other", "f", ("a",), ("c",), ("b",), ("a",))), False)
        self.assertIs(feeds(hall, one, ("other", "f", ("c",), ("c", "b"), ("c",), ("d",))), True)

    def test_only_the_told_shapes_of_the_first_one_count(self):
        hall = rules_hall()
        one = ("one", "f", ("a",), ("a",), ("a",), ("b",))
        self.assertIs(feeds(hall, one, rule_of("other", "a", "c")), False)
        self.assertIs(feeds(hall, rule_of("other", "a", "c"), one), False)
        self.assertIs(feeds(hall, rule_of("other", "c", "a"), one), True)

    def test_a_rule_and_itself(self):
        hall = rules_hall("a > a", "a > b", "@ab > b c", "@ab > c", "c d > d")
        self.assertEqual([feeds(hall, rule, rule) for rule in hall.rules], [True, False, True, False, True])

    def test_some_rules_against_the_plain_way(self):
        chance = chance_of(15)
        for turn in range(40):
            hall = some_hall(chance, rules=5)
            for one, other in itertools.product(hall.rules, repeat=2):
                self.assertIs(feeds(hall, one, other), plain_feeds(hall, one, other))

    def test_what_is_handed_in_stays_as_it_was(self):
        hall = rules_hall("@ab > a c", "c > b")
        for one, other in itertools.product(hall.rules, repeat=2):
            check_apart(self, feeds, hall, one, other)


class RingsTest(unittest.TestCase):
    def check(self, hall):
        """That what is told of a hall is an order or a ring, and tells which one."""
        told = rings_of(hall)
        self.assertEqual((type(told), len(told), type(told[1])), (tuple, 2, list))
        word, titles = told
        self.assertEqual({type(part) for part in [word] + titles}, {str})
        self.assertEqual(len(titles), len(set(titles)), titles)
        rules = {rule[0]: rule for rule in hall.rules}
        if word == "order":
            self.assertEqual(sorted(titles), sorted(rules))
            for place, title in enumerate(titles):
                for ahead in titles[:place + 1]:
                    self.assertFalse(plain_feeds(hall, rules[title], rules[ahead]), titles)
        else:
            self.assertEqual(word, "ring")
            self.assertGreater(len(titles), 0)
            for place, title in enumerate(titles):
                self.assertTrue(plain_feeds(hall, rules[title], rules[titles[(place + 1) % len(titles)]]), titles)
        return word

    def check_ring(self, titles, *rules):
        """That the one ring that there is, is told, from whichever rule on."""
        hall = rules_hall(*rules)
        self.assertEqual(self.check(hall), "ring")
        self.assertEqual(sorted(rings_of(hall)[1]), sorted(titles.split()))

    def test_no_rules(self):
        self.assertEqual(rings_of(read_hall("")), ("order", []))
        self.assertEqual(rings_of(rules_hall()), ("order", []))

    def test_one_rule(self):
        self.assertEqual(rings_of(rules_hall("a > b")), ("order", ["r0"]))
        self.assertEqual(rings_of(rules_hall("a > a")), ("ring", ["r0"]))
        self.assertEqual(rings_of(rules_hall("@ab > c b")), ("ring", ["r0"]))

    def test_orders(self):
        self.assertEqual(rings_of(rules_hall("a > b", "b > c", "c > d")), ("order", ["r0", "r1", "r2"]))
        self.assertEqual(rings_of(rules_hall("c > d", "b > c", "a > b")), ("order", ["r2", "r1", "r0"]))
        self.assertEqual(rings_of(rules_hall("b > c", "@a > e", "a > b")), ("order", ["r2", "r0", "r1"]))
        for rules in itertools.permutations(("a > b c", "b > d", "c > d", "d > e")):
            self.assertEqual(self.check(rules_hall(*rules)), "order")

    def test_rules_that_feed_none(self):
        self.assertEqual(self.check(rules_hall("a > h", "b > h", "c > h", "@ab > g")), "order")

    def test_only_itself_in_a_ring(self):
        self.check_ring("r1", "a > b", "c > c", "d > e")
        self.check_ring("r2", "a > b", "b > c", "c > d c", "d > e")

    def test_rings_of_two(self):
        self.check_ring("r0 r1", "a > b", "b > a")
        self.check_ring("r0 r2", "a > b", "c > d", "b > a")
        self.check_ring("r0 r1", "@ab > c", "@a > b")

    def test_rings_of_many(self):
        self.check_ring("r0 r1 r2", "a > b", "b > c", "c > a")
        self.check_ring("r0 r1 r2", "b > a", "c > b", "a > c")
        for size in range(1, 9):
            ring = [f"{SHAPES[place]} > {SHAPES[(place + 1) % size]}" for place in range(size)]
            titles = " ".join(f"r{number}" for number in range(size))
            self.check_ring(titles, *ring)
            self.check_ring(titles, *reversed(ring))

    def test_rings_beside_rules_in_no_ring(self):
        ring = ["b > c", "c > d", "d > b"]
        self.check_ring("r1 r2 r3", "a > b", *ring)
        self.check_ring("r0 r1 r2", *ring, "d > e")
        self.check_ring("r2 r3 r4", "g > a", "a > b", *ring, "d > e", "e > f")
        self.check_ring("r2 r3 r4", "d > e", "e > f", *ring, "a > b", "g > a")

    def test_a_row_of_the_most_rules(self):
        shapes = [f"s{number}" for number in range(31)]
        line = [f"{shapes[number]} > {shapes[number + 1]}" for number in range(30)]
        for rules in (line, line[::-1], line[::2] + line[1::2]):
            hall = rules_hall(*rules, shapes=list("abcd") + shapes)
            self.assertEqual(self.check(hall), "order")
            hall = rules_hall(*rules[:-1], "s30 > s0", shapes=list("abcd") + shapes)
            self.assertEqual(self.check(hall), "ring" if has_ring(hall) else "order")
        round_rules = line[:-1] + ["s29 > s0"]
        self.assertEqual(len(rings_of(rules_hall(*round_rules, shapes=list("abcd") + shapes))[1]), 30)

    def test_two_rings(self):
        self.assertEqual(self.check(rules_hall("a > b", "b > a", "c > d", "d > c")), "ring")
        self.assertEqual(self.check(rules_hall("a > b", "b > c a", "c > a b")), "ring")

    def test_some_halls(self):
        chance = chance_of(150)
        words = []
        for turn in range(300):
            hall = some_hall(chance, shapes=12, rules=chance.randint(0, 6), most=(1, 1, 1, 2))
            words.append(self.check(hall))
            self.assertEqual(words[-1], "ring" if has_ring(hall) else "order")
        self.assertGreater(min(words.count("ring"), words.count("order")), 60)

    def test_apart(self):
        for rules in ((), ("a > b",), ("a > a",), ("a > b", "b > c"), ("a > b", "b > a", "c > d")):
            check_apart(self, rings_of, rules_hall(*rules))
