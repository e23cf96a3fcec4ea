"""What the program is measured by: the same things, worked out in another way.

A number is here a pair of fractions (x, y) for x + y times the root of the
kind, whatever the kind. What is greater is found by ever narrower bounds of
the root, not by squares; whether a point is in a polygon by really moving it.
"""

from fractions import Fraction
from math import isqrt, lcm

KINDS = (2, 3, 5)
# (1 - w), (2 - w), (1 - w): whole numbers whose powers come ever nearer to 0, with ever longer integers.
TINY = {2: (1, -1, 1), 3: (2, -1, 1), 5: (1, -1, 1)}


def rooted(kind, p):
    a, b, n = p
    if kind == 5:
        return Fraction(2 * a + b, 2 * n), Fraction(b, 2 * n)
    return Fraction(a, n), Fraction(b, n)


def unrooted(kind, pair):
    x, y = pair
    if kind == 5:
        x, y = x - y, 2 * y
    n = lcm(x.denominator, y.denominator)
    return int(x * n), int(y * n), n


def added(one, other):
    return one[0] + other[0], one[1] + other[1]


def taken_off(one, other):
    return one[0] - other[0], one[1] - other[1]


def multiplied(kind, one, other):
    return one[0] * other[0] + kind * one[1] * other[1], one[0] * other[1] + one[1] * other[0]


def divided(kind, one, other):
    square = other[0] * other[0] - kind * other[1] * other[1]
    return multiplied(kind, one, (other[0] / square, -other[1] / square))


def bounds(kind, pair, digits):
    """Two fractions, with the pair's number between them."""
    tens = 10 ** digits
    low = Fraction(isqrt(kind * tens * tens), tens)
    ends = sorted((pair[0] + pair[1] * low, pair[0] + pair[1] * (low + Fraction(1, tens))))
    return ends[0], ends[1]


def sign_of(kind, pair):
    if pair == (0, 0):
        return 0
    digits = 20
    while True:
        low, high = bounds(kind, pair, digits)
        if low > 0:
            return 1
        if high < 0:
            return -1
        digits *= 2


def floor_of(kind, pair):
    digits = 20
    while True:
        low, high = bounds(kind, pair, digits)
        if low // 1 == high // 1:
            return int(low // 1)
        digits *= 2


def power(kind, p, k):
    """A whole number to the power k, by repeated products."""
    pair = (Fraction(1), Fraction(0))
    for _ in range(k):
        pair = multiplied(kind, pair, rooted(kind, p))
    return unrooted(kind, pair)


def rooted_point(kind, point):
    return rooted(kind, point[0]), rooted(kind, point[1])


def turn(kind, one, other, point):
    """1 if a point lies to the left of the line from one to another, 0 on it, -1 to the right."""
    across, up = taken_off(other[0], one[0]), taken_off(other[1], one[1])
    far, high = taken_off(point[0], one[0]), taken_off(point[1], one[1])
    return sign_of(kind, taken_off(multiplied(kind, across, high), multiplied(kind, up, far)))


def edges(corners):
    return [(corners[k - 1], corners[k]) for k in range(len(corners))]


def inside(kind, polygon, point, small=40):
    """Whether a point, moved by 10 to the power -small to the right and by much less upward, is inside."""
    x, y = rooted_point(kind, point)
    x = (x[0] + Fraction(1, 10 ** small), x[1])
    y = (y[0] + Fraction(1, 10 ** (3 * small)), y[1])
    corners = [rooted_point(kind, corner) for corner in polygon]
    turns = [turn(kind, one, other, (x, y)) for one, other in edges(corners)]
    if 0 in turns:
        raise AssertionError("moved onto a rim: take a smaller move")
    return min(turns) > 0


def least_first(kind, polygon):
    for corner in polygon[1:]:
        step = [sign_of(kind, taken_off(rooted(kind, there), rooted(kind, here)))
                for here, there in zip(polygon[0], corner)]
        if step < [0, 1]:
            return False
    return True


def is_right(kind, polygon):
    """Whether each corner but an edge's own ends lies to the left of each edge, the least corner first."""
    corners = [rooted_point(kind, corner) for corner in polygon]
    for k, start in enumerate(corners):
        end = corners[(k + 1) % len(corners)]
        for other in [c for c in corners if c not in (start, end)]:
            if turn(kind, start, end, other) != 1:
                return False
    return len(set(polygon)) == len(polygon) >= 3 and least_first(kind, polygon)


def area(kind, polygon):
    """The area by the stripes between the edges and the level line through (0, 0)."""
    corners = [rooted_point(kind, corner) for corner in polygon]
    found = (Fraction(0), Fraction(0))
    for one, other in edges(corners):
        wide = taken_off(one[0], other[0])
        found = added(found, multiplied(kind, wide, added(one[1], other[1])))
    return unrooted(kind, (found[0] / 2, found[1] / 2))


def some_numbers(count, size, start=1):
    """Integers from -size to size that look like any, the same in each run."""
    found = []
    state = start
    limit = 2 * size + 1
    steps = len(str(limit)) // 15 + 2
    for _ in range(count):
        drawn = 0
        for _ in range(steps):
            state = (state * 6364136223846793005 + 1442695040888963407) % 2 ** 64
            drawn = drawn * 2 ** 50 + state // 2 ** 14
        found.append(drawn % limit - size)
    return found
