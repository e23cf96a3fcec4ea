"""Points and endless lines as triples of pairs, without any checks.

A point (x, y) is (X, Y, Z), pairs, for x = X / Z and y = Y / Z, Z above 0. A
line is such a triple, too: the sum of its products with a point is above 0
to the left of it, 0 on it, below 0 to the right. So the line through two
points and the point on two lines are worked out by the same steps, and
without a division.
"""

from math import gcd, lcm

from quasifloors.exact import pair_minus, pair_plus, pair_sign, pair_times, quotient


def lifted(point):
    """Return the triple of a point."""
    (a, b, n), (c, d, m) = point
    shared = gcd(n, m)
    across, up = m // shared, n // shared
    return (a * across, b * across), (c * up, d * up), (n * across, 0)


def lifted_alike(points):
    """Return the triples of some points, all with the same third pair, (n, 0)."""
    scale = 1
    for x, y in points:
        scale = lcm(scale, x[2], y[2])
    triples = []
    for (a, b, n), (c, d, m) in points:
        across, up = scale // n, scale // m
        triples.append(((a * across, b * across), (c * up, d * up), (scale, 0)))
    return triples


def settled(kind, triple):
    """Return the point of a triple."""
    x, y, z = triple
    return quotient(kind, x, z), quotient(kind, y, z)


def cleared(triple):
    """Return a triple without common divisors, which else would grow from step to step."""
    (a, b), (c, d), (e, f) = triple
    shared = gcd(a, b, c, d, e, f)
    if shared == 1:
        return triple
    return (a // shared, b // shared), (c // shared, d // shared), (e // shared, f // shared)


def moved_back(kind, triple, x, y):
    """Return the line got by moving a line by minus a point of two pairs.

    Its height at a point is that of the line at the point and this one, added.
    """
    across, up, off = triple
    off = pair_plus(off, pair_plus(pair_times(kind, across, x), pair_times(kind, up, y)))
    return across, up, off


def minor(kind, a, b, c, d):
    return pair_minus(pair_times(kind, a, d), pair_times(kind, b, c))


def joined(kind, one, other):
    """Return the line from one point to another one, which is not the same."""
    x, y, z = one
    u, v, t = other
    return cleared((minor(kind, y, z, v, t), minor(kind, z, x, t, u), minor(kind, x, y, u, v)))


def crossing(kind, one, other):
    """Return the point on two lines, which are not parallel."""
    triple = joined(kind, one, other)
    if pair_sign(kind, triple[2]) > 0:
        return triple
    return tuple([(-a, -b) for a, b in triple])


def height(kind, line, point):
    """Return a pair: above 0 for a point to the left of a line, below 0 to the right."""
    # Written out, since nothing else is asked for so often: the sum of the three pairs' products.
    (a, b), (c, d), (e, f) = line
    (p, q), (r, s), (t, u) = point
    whole = a * p + c * r + e * t
    once = a * q + b * p + c * s + d * r + e * u + f * t
    twice = b * q + d * s + f * u
    if kind == 5:
        return whole + twice, once + twice
    return whole + kind * twice, once


def side_of(kind, line, point):
    """Return 1, 0 or -1 for a point to the left of a line, on it, to the right."""
    return pair_sign(kind, height(kind, line, point))


def side_beyond(kind, line, point):
    """Return the side of a point that is moved a little to the right, then by much less upward.

    The point is moved off every line, so the side is never 0. By such moves the height grows by a
    little of the first pair of the line, then by much less of the second one.
    """
    for pair in (height(kind, line, point), line[0]):
        hand = pair_sign(kind, pair)
        if hand != 0:
            return hand
    return pair_sign(kind, line[1])
