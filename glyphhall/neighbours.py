"""Neighbours: which shapes may stand straight behind which, ahead of each rule and behind the last one.

Neighbours are kept as a dict from pairs (shape, next shape) to True, with the empty text for an edge of the row.
"""

from glyphhall.faces import faces_of
from glyphhall.rules import fits

EDGE = ""


def neighbours_of(hall):
    """The sorted pairs ahead of each rule, and those behind the last one."""
    return [sorted(pairs) for pairs in pairs_by_rule(hall)]


def verdicts(hall):
    """For each rule "never" where it has no chain in the neighbours ahead of it, else "may"."""
    return [verdict_of(hall, rule, pairs) for rule, pairs in zip(hall.rules, pairs_by_rule(hall))]


def verdict_of(hall, rule, pairs):
    return "may" if is_chained(chain_shapes(hall, rule, pairs)) else "never"


def pairs_by_rule(hall):
    """The pairs ahead of each rule, and those behind the last one, not yet sorted."""
    told = [first_pairs(hall)]
    for rule in hall.rules:
        told.append(pairs_behind(hall, rule, told[-1]))
    return told


def first_pairs(hall):
    """The pairs in the faces of all rows of letters."""
    pairs = {}
    for row in showing_rows(hall):
        faces = faces_of(hall, row)
        for pair in zip([EDGE] + faces, faces + [EDGE]):
            pairs[pair] = True
    return pairs


def showing_rows(hall):
    """So many rows of letters that each pair in the faces of some row stands in the faces of one of these."""
    middles = [[name] for name in hall.letters]
    for name in hall.letters:
        middles.extend([[name, other] for other in hall.letters])
    # The faces of two letters hang on whether one ahead joins the first and the second joins one behind. A letter
    # that joins both ways does for each of these, and where the hall has none, nothing joins.
    joiners = [name for name, letter in hall.letters.items() if letter[0] == "both"]
    ends = [[]] + [[name] for name in joiners[:1]]
    rows = []
    for start in ends:
        for end in ends:
            rows.extend([start + middle + end for middle in middles])
    return rows


def pairs_behind(hall, rule, pairs):
    """The least pairs that hold those ahead of the rule and all that its chains among them make."""
    grown = dict(pairs)
    count = 0
    # What a chain makes may be part of other chains, so this ends only where nothing new is made.
    while count < len(grown):
        count = len(grown)
        made = made_pairs(hall, rule, grown)
        for pair in made:
            grown[pair] = True
    return grown


def made_pairs(hall, rule, pairs):
    """The pairs that the rule makes by its chains in the pairs."""
    shapes = chain_shapes(hall, rule, pairs)
    if not is_chained(shapes):
        return []
    told = rule[5]
    firsts = shapes[len(rule[2])]
    lasts = shapes[len(rule[2]) + len(rule[3]) - 1]
    ahead = [(pair[0], told[0]) for pair in pairs if pair[1] in firsts]
    behind = [(told[-1], pair[1]) for pair in pairs if pair[0] in lasts]
    return ahead + list(zip(told, told[1:])) + behind


def is_chained(shapes):
    """Whether shapes of a rule's items, as chain_shapes tells them, are those of a chain."""
    return len(shapes[0]) > 0


def chain_shapes(hall, rule, pairs):
    """For each item of the rule the shapes that stand for it in a chain; none for any item where there is no chain."""
    shapes = shapes_in(pairs)
    reached = []
    for item in rule[2] + rule[3] + rule[4]:
        fitting = [shape for shape in shapes if fits(hall, item, shape)]
        if len(reached) > 0:
            fitting = [shape for shape in fitting if is_behind_any(pairs, reached[-1], shape)]
        reached.append(fitting)
    # Reached from the first item, a shape stands in a chain only where it leads on to the last one.
    leading = [reached[-1]]
    for fitting in reversed(reached[:-1]):
        leading.append([shape for shape in fitting if is_ahead_of_any(pairs, shape, leading[-1])])
    return list(reversed(leading))


def shapes_in(pairs):
    shapes = {}
    for pair in pairs:
        shapes[pair[0]] = True
        shapes[pair[1]] = True
    return list(shapes)


def is_behind_any(pairs, shapes, shape):
    return any([(other, shape) in pairs for other in shapes])


def is_ahead_of_any(pairs, shape, shapes):
    return any([(shape, other) in pairs for other in shapes])
