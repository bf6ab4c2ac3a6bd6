"""A hall written as a text. The functions .._rows tell the rows of a sort, each as a list of its words."""


def hall_text(hall):
    """The text of a hall. In this order of its sorts each name is told ahead of the rows that use it."""
    rows = shape_rows(hall) + mark_rows(hall) + point_rows(hall) + letter_rows(hall)
    rows = rows + gap_rows(hall) + class_rows(hall) + feature_rows(hall) + rule_rows(hall)
    return "\n".join([" ".join(words) for words in rows])


def pair_words(pair):
    return [str(pair[0]), str(pair[1])]


def shape_rows(hall):
    return [["shape", name, str(width)] for name, width in hall.shapes.items()]


def mark_rows(hall):
    return [["mark", name, mark[0]] + pair_words(mark[1]) + pair_words(mark[2]) for name, mark in hall.marks.items()]


def point_rows(hall):
    return [["point", spot[0], spot[1]] + pair_words(point) for spot, point in hall.points.items()]


def letter_rows(hall):
    return [["letter", name, letter[0], letter[1]] + list(letter[2]) for name, letter in hall.letters.items()]


def gap_rows(hall):
    return [["gap", name] for name in hall.gaps]


def class_rows(hall):
    return [["class", name] + list(shapes) for name, shapes in hall.classes.items()]


def feature_rows(hall):
    return [["feature", name, "on" if on else "off"] for name, on in hall.features.items()]


def rule_rows(hall):
    return [rule_words(rule) for rule in hall.rules]


def rule_words(rule):
    sides = list(rule[2]) + ["/"] + list(rule[3]) + ["/"] + list(rule[4])
    return ["rule", rule[0], rule[1]] + sides + [">"] + list(rule[5])
