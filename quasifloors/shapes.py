"""Polygons without any checks: what is handed in is right.

A shape is a polygon while it is cut: a list of (corner, side), the triples
of lines.py, side being a line on which the edge from the corner on lies (in
either direction). A point at which an edge is cut is so got from two lines
that were handed in, however often the polygon was cut before.
"""

from quasifloors.exact import ZERO, order_of, pair_plus, pair_times, quotient, reduced, total
from quasifloors.lines import crossing, joined, lifted, lifted_alike, minor, settled, side_beyond, side_of


def point_order(kind, one, other):
    """Return -1, 0 or 1 by the first numbers and, these alike, the second ones."""
    order = order_of(kind, one[0], other[0])
    if order != 0:
        return order
    return order_of(kind, one[1], other[1])


def around(corners):
    """Return the pairs of each corner and the next one."""
    return list(zip(corners, corners[1:] + corners[:1]))


def goes_round(kind, corners):
    """Tell whether three or more points are the corners of a polygon, from the least one on."""
    steps = [point_order(kind, one, other) for one, other in around(corners)]
    # All turns being to the left, the edges go round once if they lead up once and then down once.
    rising = steps.count(-1)
    if steps != [-1] * rising + [1] * (len(corners) - rising):
        return False
    triples = [lifted(corner) for corner in corners]
    ahead = triples[2:] + triples[:2]
    for (one, other), third in zip(around(triples), ahead):
        if side_of(kind, joined(kind, one, other), third) <= 0:
            return False
    return True


def spot_among(kind, ordered, point):
    """Return the index of the first of some ascending points that is not less than a point."""
    low, high = 0, len(ordered)
    while low < high:
        middle = (low + high) // 2
        if point_order(kind, ordered[middle], point) < 0:
            low = middle + 1
        else:
            high = middle
    return low


def in_order(kind, points):
    """Return the ascending list of some points, each once."""
    ordered = []
    for point in points:
        spot = spot_among(kind, ordered, point)
        if spot == len(ordered) or ordered[spot] != point:
            ordered.insert(spot, point)
    return ordered


def bent_left(kind, points):
    """Return those of some points that are left if all that do not turn to the left are dropped."""
    kept = []
    triples = []
    for point in points:
        triple = lifted(point)
        while len(kept) > 1 and side_of(kind, joined(kind, triples[-2], triples[-1]), triple) <= 0:
            kept.pop()
            triples.pop()
        kept.append(point)
        triples.append(triple)
    return kept


def outermost(kind, points):
    """Return the polygon of the outermost points, None if all are in one line."""
    ordered = in_order(kind, points)
    lower = bent_left(kind, ordered)
    upper = bent_left(kind, ordered[::-1])
    corners = lower[:-1] + upper[:-1]
    if len(corners) < 3:
        return None
    return tuple(corners)


def moved_by(corners, point):
    """Return a polygon with a point added to each of its points."""
    return tuple([(total(x, point[0]), total(y, point[1])) for x, y in corners])


def area_of(kind, corners):
    """Return the area of a polygon: half of the sum of its edges' minors."""
    triples = lifted_alike(corners)
    scale = triples[0][2][0]
    twice = (0, 0)
    for one, other in around(triples):
        twice = pair_plus(twice, minor(kind, one[0], one[1], other[0], other[1]))
    return reduced(twice[0], twice[1], 2 * scale * scale)


def sides_of(kind, corners):
    """Return the lines of the edges of a polygon, which is to the left of them."""
    triples = [lifted(corner) for corner in corners]
    return [joined(kind, one, other) for one, other in around(triples)]


def hold(kind, sides, triple):
    """Tell whether a point is in the polygon to the left of some lines, as the document has it."""
    for side in sides:
        if side_beyond(kind, side, triple) < 0:
            return False
    return True


def holds(kind, corners, point):
    """Tell whether a point is in a polygon, one that is on its rim as the document has it."""
    return hold(kind, sides_of(kind, corners), lifted(point))


def shape_of(kind, corners):
    triples = [lifted(corner) for corner in corners]
    return list(zip(triples, sides_of(kind, corners)))


def from_least(kind, corners):
    """Return the polygon of a list of corners, which begins with the least one."""
    least = 0
    for at, corner in enumerate(corners):
        if point_order(kind, corner, corners[least]) < 0:
            least = at
    return tuple(corners[least:] + corners[:least])


def polygon_of(kind, shape):
    """Return the polygon that a shape is, from its least corner on; None of None."""
    if shape is None:
        return None
    return from_least(kind, [settled(kind, corner) for corner, side in shape])


def extent_of(kind, shape):
    """Return the area of a shape."""
    twice = ZERO
    for (one, _), (other, _) in around(shape):
        edge = minor(kind, one[0], one[1], other[0], other[1])
        twice = total(twice, quotient(kind, edge, pair_times(kind, one[2], other[2])))
    return reduced(twice[0], twice[1], 2 * twice[2])


def parted(kind, shape, line):
    """Return what of a shape lies to the left and to the right of a line, each None without an area."""
    hands = [side_of(kind, line, corner) for corner, _ in shape]
    if min(hands) >= 0:
        return shape, None
    if max(hands) <= 0:
        return None, shape
    marked = [(corner, side, hand) for (corner, side), hand in zip(shape, hands)]
    rim = []
    for spot, following in around(marked):
        rim.append(spot)
        if spot[2] * following[2] < 0:
            rim.append((crossing(kind, spot[1], line), spot[1], 0))
    return part_beside(rim, line, 1), part_beside(rim, line, -1)


def part_beside(rim, line, hand):
    """Return the part on one hand of a line of a shape that has a corner wherever it is cut."""
    part = []
    for (corner, side, here), following in around(rim):
        if hand in (here, following[2]):
            part.append((corner, side))
        elif here == 0:
            # The edge behind this corner is cut off: the part goes on along the line.
            part.append((corner, line))
    return part


def left_of_all(kind, shape, sides):
    """Return what of a shape lies to the left of all of some lines, None if it has no area."""
    for side in sides:
        shape = parted(kind, shape, side)[0]
        if shape is None:
            return None
    return shape


def carved(kind, shape, sides):
    """Return what of a shape lies to the left of all of some lines, or None, and a list of shapes of the rest."""
    inside = shape
    outsides = []
    for side in sides:
        inside, outside = parted(kind, inside, side)
        if inside is None:
            # Nothing lies there, so the shape stays as it is, however it was cut so far.
            return None, [shape]
        if outside is not None:
            outsides.append(outside)
    return inside, outsides


def ascending(kind, shapes):
    """Return the ascending tuple of the polygons that some shapes are."""
    return tuple(sorted([polygon_of(kind, shape) for shape in shapes]))


def common(kind, one, other):
    """Return the polygon of what two have in common, None if it has no area."""
    return polygon_of(kind, left_of_all(kind, shape_of(kind, one), sides_of(kind, other)))


def remaining(kind, one, other):
    """Return the ascending tuple of polygons that make up what of the one the other one has not."""
    rest = carved(kind, shape_of(kind, one), sides_of(kind, other))[1]
    return ascending(kind, rest)


def halves(kind, corners, one, other):
    """Return what of a polygon lies to the left and to the right of the line from one point to another."""
    line = joined(kind, lifted(one), lifted(other))
    left, right = parted(kind, shape_of(kind, corners), line)
    return polygon_of(kind, left), polygon_of(kind, right)
