"""Places, found by where their mates are. Without any checks: what is handed in is right.

Where they are is told by lines: to the left of all of them. A box is (left, low, right, high), numbers.
"""

from quasifloors.exact import STRETCH_UNITS, ZERO, ceiled, difference, multiplied, order_of, pair_mate, pair_minus
from quasifloors.exact import pair_plus, pair_sign, pair_times, quotient, reduced, total
from quasifloors.lines import height, lifted, lifted_alike, side_of
from quasifloors.shapes import hold, sides_of
from quasifloors.wholes import whole_behind, wholes_between

HERE = ((0, 0), (0, 0))


def step_from(place, other):
    """Return the place that, added to a place, leads to another one."""
    (a, b), (c, d) = place
    (e, f), (g, h) = other
    return (e - a, f - b), (g - c, h - d)


def mate_point(kind, place):
    return pair_mate(kind, place[0]) + (1,), pair_mate(kind, place[1]) + (1,)


def mate_triple(kind, place):
    return pair_mate(kind, place[0]), pair_mate(kind, place[1]), (1, 0)


def is_of(kind, sides, place):
    """Tell whether the mate of a place is in the window to the left of some lines."""
    return hold(kind, sides, mate_triple(kind, place))


def distance_of(kind, step):
    """Return the least integer that no number of a place is above in absolute value."""
    distance = 0
    for a, b in step:
        hand = pair_sign(kind, (a, b))
        distance = max(distance, ceiled(kind, (hand * a, hand * b, 1)))
    return distance


def box_about(place, r):
    """Return the box of the points with no number further than an integer from those of a place."""
    (a, b), (c, d) = place
    return (a - r, b, 1), (c - r, d, 1), (a + r, b, 1), (c + r, d, 1)


def box_of(kind, corners):
    """Return the least box that holds a polygon."""
    left, low = corners[0]
    right, high = corners[0]
    for x, y in corners[1:]:
        if order_of(kind, right, x) < 0:
            right = x
        if order_of(kind, y, low) < 0:
            low = y
        if order_of(kind, high, y) < 0:
            high = y
    return left, low, right, high


def turned_over(box):
    """Return a box with the first and the second numbers of all points exchanged."""
    left, low, right, high = box
    return low, left, high, right


def slice_at(kind, sides, x):
    """Return the least and the greatest second number of the points with a first number, a pair, by some lines."""
    low, high = None, None
    for across, up, off in sides:
        hand = pair_sign(kind, up)
        if hand == 0:
            continue
        a, b = pair_plus(pair_times(kind, across, x), off)
        end = quotient(kind, (-a, -b), up)
        if hand > 0 and (low is None or order_of(kind, low, end) < 0):
            low = end
        if hand < 0 and (high is None or order_of(kind, end, high) < 0):
            high = end
    return low, high


def places_by_slices(kind, sides, frame, box):
    """Return the places of places_beside: for each first number those with the mates of the second one in a slice."""
    left, low, right, high = box
    found = []
    for x in wholes_between(kind, left, right, frame[0], frame[2]):
        bottom, top = slice_at(kind, sides, pair_mate(kind, x))
        for y in wholes_between(kind, low, high, bottom, top):
            found.append((x, y))
    return found


def places_beside(kind, sides, frame, box):
    """Return the places of a box whose mates lie to the left of all lines or on them, which is in a frame, a box."""
    firsts = multiplied(kind, difference(box[2], box[0]), difference(frame[2], frame[0]))
    seconds = multiplied(kind, difference(box[3], box[1]), difference(frame[3], frame[1]))
    if order_of(kind, firsts, seconds) <= 0:
        return places_by_slices(kind, sides, frame, box)
    # There are fewer slices the other way.
    lines = [(up, across, off) for across, up, off in sides]
    found = places_by_slices(kind, lines, turned_over(frame), turned_over(box))
    return [(x, y) for y, x in found]


def places_in(kind, window, box):
    """Return the ascending list of the places of a floor in a box."""
    sides = sides_of(kind, window)
    found = places_beside(kind, sides, box_of(kind, window), box)
    return sorted([place for place in found if is_of(kind, sides, place)])


def patch_at(kind, window, place, r):
    """Return the patch of a place of a floor."""
    around = places_in(kind, window, box_about(place, r))
    return tuple([step_from(place, other) for other in around if other != place])


def highest(kind, line, triples):
    """Return the greatest height of some points, whose third pairs are the same, over a line."""
    greatest = height(kind, line, triples[0])
    for triple in triples[1:]:
        other = height(kind, line, triple)
        if pair_sign(kind, pair_minus(other, greatest)) > 0:
            greatest = other
    return greatest


def differences(kind, window):
    """Return the lines to the left of all of which the differences of two points inside a window are."""
    triples = lifted_alike(window)
    scale = triples[0][2][0]
    lines = []
    for line in sides_of(kind, window):
        (a, b), (c, d), _ = line
        most = highest(kind, line, triples)
        lines.append(((a * scale, b * scale), (c * scale, d * scale), most))
        lines.append(((-a * scale, -b * scale), (-c * scale, -d * scale), most))
    return lines


def is_inside(kind, sides, triple):
    """Tell whether a point is to the left of all of some lines, and on none."""
    for side in sides:
        if side_of(kind, side, triple) <= 0:
            return False
    return True


def near_places(kind, window, r):
    """Return the ascending list of all places in patches to a radius."""
    sides = differences(kind, window)
    left, low, right, high = box_of(kind, window)
    wide, tall = difference(right, left), difference(high, low)
    frame = difference(left, right), difference(low, high), wide, tall
    steps = [step for step in places_beside(kind, sides, frame, box_about(HERE, r)) if step != HERE]
    return sorted([step for step in steps if is_inside(kind, sides, mate_triple(kind, step))])


def steps_into(kind, sides, frame, point, r):
    """Return the places, none of their numbers above r, whose mates lead from a point into a polygon.

    The polygon is to the left of the sides, and in the frame.
    """
    triple = lifted(point)
    scale = triple[2][0]
    lines = []
    for line in sides:
        (a, b), (c, d), _ = line
        lines.append(((a * scale, b * scale), (c * scale, d * scale), height(kind, line, triple)))
    x, y = point
    left, low, right, high = frame
    beyond = difference(left, x), difference(low, y), difference(right, x), difference(high, y)
    found = places_beside(kind, lines, beyond, box_about(HERE, r))
    return [step for step in found if is_of(kind, lines, step)]


def middle_of(corners):
    """Return the middle of the corners of a polygon, which is inside."""
    many = len(corners)
    x, y = ZERO, ZERO
    for across, up in corners:
        x, y = total(x, across), total(y, up)
    return reduced(x[0], x[1], many * x[2]), reduced(y[0], y[1], many * y[2])


def inner_place(kind, corners):
    """Return a place whose mate is inside a polygon."""
    sides = sides_of(kind, corners)
    x, y = middle_of(corners)
    power = (1, 0)
    while not fits(kind, sides, x, y, pair_mate(kind, power) + (1,)):
        power = pair_times(kind, power, STRETCH_UNITS[kind][:2])
    return whole_behind(kind, x, power), whole_behind(kind, y, power)


def fits(kind, sides, x, y, size):
    """Tell whether the square of a size to the right of a point and above it is inside a polygon."""
    right, top = total(x, size), total(y, size)
    for corner in ((x, y), (right, y), (x, top), (right, top)):
        if not is_inside(kind, sides, lifted(corner)):
            return False
    return True
