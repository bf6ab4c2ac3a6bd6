"""Faces: the shape that each letter of a row takes, as its neighbours ask for it."""

from glyphhall.errors import NoLetter

JOINS_THAT_TAKE = ("both", "back")


def check_letters(hall, letters):
    """NoLetter for the first letter that the hall lacks."""
    for place, name in enumerate(letters):
        if name not in hall.letters:
            raise NoLetter(place)


def faces_of(hall, letters):
    """The shapes of a row of letters; NoLetter for the first one that the hall lacks."""
    check_letters(hall, letters)
    pairs = joined_pairs([hall.letters[name][0] for name in letters])
    joining = dict([(pair[0], True) for pair in pairs])
    joined = dict([(pair[1], True) for pair in pairs])
    faces = []
    for place, name in enumerate(letters):
        faces.append(face_among(hall.letters[name][2], place in joined, place in joining))
    return faces


def joined_pairs(joins):
    """The pairs of places of which the first one's letter joins the second one's."""
    seen = [place for place, join in enumerate(joins) if join != "clear"]
    return [pair for pair in zip(seen, seen[1:]) if joins_next(joins[pair[0]], joins[pair[1]])]


def joins_next(join, next_join):
    return join == "both" and next_join in JOINS_THAT_TAKE


def face_among(shapes, joined, joining):
    # The shapes are alone, first, middle, last; letters that never join the next one lack first and middle,
    # and those that nothing joins lack last too, so that last is found from the end.
    if joined and joining:
        return shapes[2]
    if joining:
        return shapes[1]
    if joined:
        return shapes[-1]
    return shapes[0]
