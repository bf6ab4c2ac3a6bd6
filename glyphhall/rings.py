"""Rings: which rules feed which, and an order of the rules or a ring of them."""

from glyphhall.rules import fits


def feeds(hall, one, other):
    """Whether a told shape of the first rule fits an item of the other one's core."""
    return any([fits_one_of(hall, other[3], shape) for shape in one[5]])


def fits_one_of(hall, items, shape):
    return any([fits(hall, item, shape) for item in items])


def rings_of(hall):
    """("order", titles) with no rule ahead of one that feeds it, or ("ring", titles) where there is no such order."""
    feeders = feeders_by_title(hall)
    left = [rule[0] for rule in hall.rules]
    order = []
    while len(left) > 0:
        free = [title for title in left if len(shared(feeders[title], left)) == 0]
        if len(free) == 0:
            return ("ring", ring_among(feeders, left))
        order.extend(free)
        left = [title for title in left if title not in free]
    return ("order", order)


def feeders_by_title(hall):
    """From each rule's title to the titles of the rules that feed it."""
    feeders = {}
    for rule in hall.rules:
        feeders[rule[0]] = [other[0] for other in hall.rules if feeds(hall, other, rule)]
    return feeders


def shared(titles, others):
    return [title for title in titles if title in others]


def ring_among(feeders, left):
    """A ring among titles each of which is fed by one of them."""
    path = []
    title = left[0]
    while title not in path:
        path.append(title)
        title = shared(feeders[title], left)[0]
    # The path goes from the fed to the feeding, the ring the other way.
    return list(reversed(path[path.index(title):]))
