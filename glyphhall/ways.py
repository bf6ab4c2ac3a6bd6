"""Ways: the way of each letter of a row, and the order in which cells are seen from the left."""

from glyphhall.faces import check_letters
from glyphhall.rules import homes_of

STRONG_WAYS = ("left", "right")


def ways_of(hall, letters, way):
    """The way of each letter in a row of this way; NoLetter for the first letter that the hall lacks."""
    check_letters(hall, letters)
    told = [told_way(hall.letters[name]) for name in letters]
    ahead = nearest_ahead(told)
    behind = list(reversed(nearest_ahead(list(reversed(told)))))
    ways = []
    last = way
    for place, own in enumerate(told):
        if own in STRONG_WAYS:
            last = own
        elif own == "either":
            last = way_between(ahead[place], behind[place], way)
        # A clear letter keeps the way of the letter ahead of it.
        ways.append(last)
    return ways


def told_way(letter):
    """The way that a letter's row tells, "clear" for one whose own way counts for nothing."""
    return "clear" if letter[0] == "clear" else letter[1]


def nearest_ahead(told):
    """For each place the nearest strong way ahead of it, None where there is none."""
    nearest = []
    last = None
    for own in told:
        nearest.append(last)
        if own in STRONG_WAYS:
            last = own
    return nearest


def way_between(ahead, behind, way):
    if ahead is not None and ahead == behind:
        return ahead
    return way


def seen_order(hall, cells, ways, way):
    """The places of the bases as they are seen from the left, in a row of this way with these ways of its letters."""
    runs = base_runs(hall, cells, ways)
    if way == "right":
        runs = list(reversed(runs))
    order = []
    for run_way, places in runs:
        if run_way == "right":
            order.extend(list(reversed(places)))
        else:
            order.extend(places)
    return order


def base_runs(hall, cells, ways):
    """The places of the bases, parted into pairs (way, places) as long as may be."""
    homes = homes_of(cells)
    runs = []
    for place, cell in enumerate(cells):
        if cell[0] not in hall.marks:
            own = ways[homes[place]]
            if len(runs) == 0 or runs[-1][0] != own:
                runs.append((own, []))
            runs[-1][1].append(place)
    return runs
