"""Laying: the place of each cell of a shaped row, and the row's width."""

from glyphhall.halls import SIDES
from glyphhall.ways import seen_order


def laid(hall, cells, ways, way):
    """The place (x, y) of each cell in a row of this way with these ways of its letters."""
    spots = base_spots(hall, cells, seen_order(hall, cells, ways, way))
    # On each side a foot: where the next mark of this side is put with its own point.
    feet = feet_on((0, 0), {})
    told = []
    for place, cell in enumerate(cells):
        if place in spots:
            spot = spots[place]
            feet = feet_on(spot, points_of(hall, cell[0]))
        else:
            mark = hall.marks[cell[0]]
            spot = minus(feet[mark[0]], mark[1])
            feet[mark[0]] = plus(spot, mark[2])
        told.append(spot)
    return told


def base_spots(hall, cells, order):
    """From the place of each base among the cells to where it is laid."""
    spots = {}
    x = 0
    for place in order:
        spots[place] = (x, 0)
        x = x + hall.shapes[cells[place][0]]
    return spots


def points_of(hall, shape):
    """From each side to the shape's point there, where one is told."""
    return dict([(side, hall.points[(shape, side)]) for side in SIDES if (shape, side) in hall.points])


def feet_on(spot, points):
    return dict([(side, plus(spot, points.get(side, (0, 0)))) for side in SIDES])


def plus(one, other):
    return (one[0] + other[0], one[1] + other[1])


def minus(one, other):
    return (one[0] - other[0], one[1] - other[1])


def width_of(hall, cells):
    """The sum of the widths of all bases."""
    return sum([hall.shapes[cell[0]] for cell in cells if cell[0] not in hall.marks])
