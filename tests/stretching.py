"""Matrices, units and growing, reckoned plainly, and the ones that the tests use."""

from quasifloors import polygons
from tests import plain
from tests import reference as ref

ONE = ((1, 0), (1, 0))
# All of norm 1 or -1 and with a mate above 0, some of them below 0.
GOOD = {2: [(1, 0), (3, 2), (3, -2), (1, -1), (-1, -1), (7, -5), (17, 12)],
        3: [(1, 0), (2, 1), (2, -1), (7, 4), (7, -4), (26, -15)],
        5: [(1, 0), (1, 1), (2, -1), (0, -1), (1, -1), (-1, -2), (2, 3)]}
UNITS = {2: [(1, 0), (3, 2), (3, -2)], 3: [(1, 0), (2, 1), (2, -1)], 5: [(1, 0), (1, 1), (2, -1), (2, 3), (5, -3)]}
GROWING = {2: (3, 2), 3: (2, 1), 5: (1, 1)}
CORNERS = [(0, 0), (1, 0), (-2, 0), (0, 1), (3, -2), (-1, 2)]


def matrices(kind):
    """Matrices in which each number comes beside some others."""
    good = GOOD[kind]
    found = []
    for k, p in enumerate(good):
        for j in range(3):
            found.append(((p, CORNERS[(k + 2 * j) % 6]), ((0, 0), good[(k + 2 * j) % len(good)])))
    return found


def times_pair(kind, one, other):
    return ref.unrooted(kind, ref.multiplied(kind, ref.rooted(kind, one + (1,)), ref.rooted(kind, other + (1,))))[:2]


def plus_pair(one, other):
    return one[0] + other[0], one[1] + other[1]


def taken(kind, matrix, place):
    """The product of a matrix and a place, number for number."""
    return tuple([plus_pair(times_pair(kind, p, place[0]), times_pair(kind, q, place[1])) for p, q in matrix])


def product(kind, one, other):
    rows = []
    for p, q in one:
        columns = zip(*other)
        rows.append(tuple([plus_pair(times_pair(kind, p, x), times_pair(kind, q, y)) for x, y in columns]))
    return tuple(rows)


def scaled_matrix(unit):
    return ((unit, (0, 0)), ((0, 0), unit))


def taken_point(kind, matrix, point):
    """The product of a matrix's mate and a point."""
    found = []
    for row in matrix:
        pair = (0, 0)
        for one, p in zip(row, point):
            pair = ref.added(pair, ref.multiplied(kind, ref.rooted(kind, plain.mate(kind, one)), ref.rooted(kind, p)))
        found.append(ref.unrooted(kind, pair))
    return tuple(found)


def shrunk(kind, unit, corners):
    return tuple([taken_point(kind, scaled_matrix(unit), corner) for corner in corners])


def candidates(floor, unit):
    """All places with no number above a unit, whose mates may lead from within the window, stretched, into it."""
    kind, window = floor
    found = []
    for k in (0, 1):
        low, high = plain.ends(kind, [corner[k] for corner in window])
        small = plain.ends(kind, [corner[k] for corner in shrunk(kind, unit, window)])
        least = ref.unrooted(kind, ref.taken_off(ref.rooted(kind, low), ref.rooted(kind, small[1])))
        most = ref.unrooted(kind, ref.taken_off(ref.rooted(kind, high), ref.rooted(kind, small[0])))
        a, b = unit
        found.append(plain.wholes(kind, (-a, -b, 1), (a, b, 1), least, most))
    return sorted([(x, y) for x in found[0] for y in found[1]])


def cover(kind, unit, piece, step):
    """The mates of the places that come by a step of the places whose mates are in a piece of a window."""
    return polygons.moved(kind, shrunk(kind, unit, piece), plain.mate_point(kind, step))


def is_in_window(floor, corners):
    return polygons.less(floor[0], corners, floor[1]) == ()


def rule(floor, unit, r):
    """The growing rule, by cutting: all steps whose covers of all pieces of a part leave nothing outside."""
    parts = plain.parts(floor, r)
    steps = candidates(floor, unit)
    told = []
    for patch in sorted(parts):
        held = [step for step in steps
                if all([is_in_window(floor, cover(floor[0], unit, piece, step)) for piece in parts[patch]])]
        told.append((patch, tuple(held)))
    return tuple(told)


def bare(floor, unit, r):
    """What of the window is in no cover of the rule."""
    kind, window = floor
    parts = plain.parts(floor, r)
    left = [window]
    for patch, steps in rule(floor, unit, r):
        for step in steps:
            for piece in parts[patch]:
                there = cover(kind, unit, piece, step)
                left = [rest for told in left for rest in polygons.less(kind, told, there)]
    return left


def sources(kind, unit, place, steps):
    """The places from which a place would come by some steps."""
    back = plain.mate(kind, unit)[:2]
    for step in steps:
        there = plain.difference(step, place)
        yield step, tuple([times_pair(kind, back, pair) for pair in there])
