"""Halls, rows and settings by a chance that is the same in each run."""

import random

from glyphhall.halls import read_hall

JOINS = {"none": 1, "clear": 1, "back": 2, "both": 4}
WAYS = ("left", "right", "either")


def chance_of(seed):
    return random.Random(seed)


def some_words(chance, words, count):
    return [chance.choice(words) for number in range(count)]


def some_rule(chance, items, shapes, most=(2, 3, 2, 3)):
    """"ITEMS / ITEMS / ITEMS > SHAPE .." with at most so many items before, in and after the core, and shapes told."""
    before, core, after, told = most
    parts = [
        some_words(chance, items, chance.randint(0, before)),
        some_words(chance, items, chance.randint(1, core)),
        some_words(chance, items, chance.randint(0, after)),
    ]
    told_words = some_words(chance, shapes, chance.randint(1, told))
    return " / ".join(" ".join(part) for part in parts) + " > " + " ".join(told_words)


def some_hall_text(chance, shapes=6, letters=3, rules=3, marks=0, classes=3, features="fg", most=(2, 3, 2, 3)):
    """A hall's text: shapes s0, s1 and so on, letters l0 .., classes c0 .., features (the first one on, the last one off)
    and rules r0 .. with at most so many items and told shapes."""
    names = [f"s{number}" for number in range(shapes)]
    rows = [f"shape {name} {chance.choice((0, 1, 2, 3, 5, 8, 13))}" for name in names]
    for name in chance.sample(names, marks):
        numbers = " ".join(str(chance.randint(-9, 9)) for number in range(4))
        rows.append(f"mark {name} {chance.choice(('above', 'below'))} {numbers}")
    for name in names:
        for side in chance.sample(("above", "below"), chance.randint(0, 2)):
            rows.append(f"point {name} {side} {chance.randint(-9, 9)} {chance.randint(-9, 9)}")
    for number in range(letters):
        join = chance.choice(tuple(JOINS))
        faces = " ".join(some_words(chance, names, JOINS[join]))
        rows.append(f"letter l{number} {join} {chance.choice(WAYS)} {faces}")
    rows += [f"gap l{number}" for number in range(letters) if chance.random() < 0.4]
    for number in range(classes):
        rows.append(f"class c{number} " + " ".join(some_words(chance, names, chance.randint(1, max(5, shapes // 3)))))
    rows += [f"feature {name} {'off' if name == features[-1] else 'on'}" for name in features]
    items = names + [f"@c{number}" for number in range(classes)] * 2
    for number in range(rules):
        rows.append(f"rule r{number} {chance.choice(features[:1] + features)} " + some_rule(chance, items, names, most))
    return "\n".join(rows)


def some_hall(chance, **counts):
    return read_hall(some_hall_text(chance, **counts))


def some_row(chance, hall, most):
    """A row of letters of the hall, at most so many."""
    return some_words(chance, list(hall.letters), chance.randint(0, most)) if hall.letters else []


def some_settings(chance, hall, most=3, last=8):
    """At most so many settings of features of the hall, from places up to last."""
    settings = []
    for number in range(chance.randint(0, most)):
        first = chance.randint(-2, last)
        settings.append((chance.choice(list(hall.features)), first, first + chance.randint(-1, last), chance.random() < 0.6))
    return settings
