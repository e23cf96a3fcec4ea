"""Polygons without any checks: what is handed in is right.

A shape is a polygon while it is cut: a list of (corner, side), the triples
of lines.py, side being a line on which the edge from the corner on lies (in
either direction). A point at which an edge is cut is so got from two lines
that were handed in, however often the polygon was cut before.
"""

from quasifloors.exact import ZERO, order_of, reduced, total
from quasifloors.lines import crossing, joined, lifted, minor, settled, side_beyond, side_of


def point_order(kind, one, other):
    """Return -1, 0 or 1 by the first numbers and, these alike, the second ones."""
    order = order_of(kind, one[0], other[0])
    if order != 0:
        return order
    return order_of(kind, one[1], other[1])


def around(corners):
    """Return the pairs of each corner and the next one."""
    return list(zip(corners, corners[1:] + corners[:1]))


def goes_round(kind, corners):
    """Tell whether three or more points are the corners of a polygon, from the least one on."""
    steps = [point_order(kind, one, other) for one, other in around(corners)]
    # All turns being to the left, the edges go round once if they lead up once and then down once.
    rising = steps.count(-1)
    if steps != [-1] * rising + [1] * (len(corners) - rising):
        return False
    triples = [lifted(corner) for corner in corners]
    ahead = triples[2:] + triples[:2]
    for (one, other), third in zip(around(triples), ahead):
        if side_of(kind, joined(kind, one, other), third) <= 0:
            return False
    return True


def spot_among(kind, ordered, point):
    """Return the index of the first of some ascending points that is not less than a point."""
    low, high = 0, len(ordered)
    while low < high:
        middle = (low + high) // 2
        if point_order(kind, ordered[middle], point) < 0:
            low = middle + 1
        else:
            high = middle
    return low


def in_order(kind, points):
    """Return the ascending list of some points, each once."""
    ordered = []
    for point in points:
        spot = spot_among(kind, ordered, point)
        if spot == len(ordered) or ordered[spot] != point:
            ordered.insert(spot, point)
    return ordered


def bent_left(kind, points):
    """Return those of some points that are left if all that do not turn to the left are dropped."""
    kept = []
    triples = []
    for point in points:
        triple = lifted(point)
        while len(kept) > 1 and side_of(kind, joined(kind, triples[-2], triples[-1]), triple) <= 0:
            kept.pop()
            triples.pop()
        kept.append(point)
        triples.append(triple)
    return kept


def outermost(kind, points):
    """Return the polygon of the outermost points, None if all are in one line."""
    ordered = in_order(kind, points)
    lower = bent_left(kind, ordered)
    upper = bent_left(kind, ordered[::-1])
    corners = lower[:-1] + upper[:-1]
    if len(corners) < 3:
        return None
    return tuple(corners)


def area_of(kind, corners):
    """Return the area of a polygon: half of the sum of its edges' minors."""
    twice = ZERO
    for one, other in around([lifted(corner) for corner in corners]):
        a, b = minor(kind, one[0], one[1], other[0], other[1])
        twice = total(twice, reduced(a, b, one[2][0] * other[2][0]))
    return reduced(twice[0], twice[1], 2 * twice[2])


def holds(kind, corners, point):
    """Tell whether a point is in a polygon, one that is on its rim as the document has it."""
    triple = lifted(point)
    for one, other in around([lifted(corner) for corner in corners]):
        if side_beyond(kind, joined(kind, one, other), triple) < 0:
            return False
    return True


def shape_of(kind, corners):
    triples = [lifted(corner) for corner in corners]
    return [(one, joined(kind, one, other)) for one, other in around(triples)]


def polygon_of(kind, shape):
    """Return the polygon that a shape is, from its least corner on; None of None."""
    if shape is None:
        return None
    corners = [settled(kind, corner) for corner, side in shape]
    least = 0
    for at, corner in enumerate(corners):
        if point_order(kind, corner, corners[least]) < 0:
            least = at
    return tuple(corners[least:] + corners[:least])


def parted(kind, shape, line):
    """Return what of a shape lies to the left and to the right of a line, each None without an area."""
    marked = [(corner, side, side_of(kind, line, corner)) for corner, side in shape]
    rim = []
    for spot, following in around(marked):
        rim.append(spot)
        if spot[2] * following[2] < 0:
            rim.append((crossing(kind, spot[1], line), spot[1], 0))
    return part_beside(rim, line, 1), part_beside(rim, line, -1)


def part_beside(rim, line, hand):
    """Return the part on one hand of a line of a shape that has a corner wherever it is cut."""
    part = []
    has_area = False
    for (corner, side, here), following in around(rim):
        if hand in (here, following[2]):
            part.append((corner, side))
            has_area = True
        elif here == 0:
            # The edge behind this corner is cut off: the part goes on along the line.
            part.append((corner, line))
    return part if has_area else None


def common(kind, one, other):
    """Return the polygon of what two have in common, None if it has no area."""
    shape = shape_of(kind, one)
    for _, side in shape_of(kind, other):
        shape = parted(kind, shape, side)[0]
        if shape is None:
            return None
    return polygon_of(kind, shape)


def remaining(kind, one, other):
    """Return the ascending tuple of polygons that make up what of the one the other one has not."""
    shape = shape_of(kind, one)
    parts = []
    for _, side in shape_of(kind, other):
        shape, outside = parted(kind, shape, side)
        if shape is None:
            # Nothing is common to both, so the one stays as it is, however it was cut so far.
            return (one,)
        if outside is not None:
            parts.append(polygon_of(kind, outside))
    return tuple(sorted(parts))


def halves(kind, corners, one, other):
    """Return what of a polygon lies to the left and to the right of the line from one point to another."""
    line = joined(kind, lifted(one), lifted(other))
    left, right = parted(kind, shape_of(kind, corners), line)
    return polygon_of(kind, left), polygon_of(kind, right)
