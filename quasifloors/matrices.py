"""Matrices and stretching. Without any checks: what is handed in is right.

A matrix is ((p, q), (0, t)), pairs; it takes (x, y) to (p x + q y, t y).
"""

from quasifloors.exact import multiplied, pair_mate, pair_norm, pair_plus, pair_times, total
from quasifloors.lines import lifted, side_of
from quasifloors.shapes import from_least, sides_of


def taken_place(kind, matrix, place):
    (p, q), (_, t) = matrix
    x, y = place
    return pair_plus(pair_times(kind, p, x), pair_times(kind, q, y)), pair_times(kind, t, y)


def inverse(kind, pair):
    """Return 1 by a pair of norm 1 or -1."""
    hand = pair_norm(kind, pair)
    a, b = pair_mate(kind, pair)
    return hand * a, hand * b


def inverse_matrix(kind, matrix):
    (p, q), (_, t) = matrix
    p, t = inverse(kind, p), inverse(kind, t)
    a, b = pair_times(kind, pair_times(kind, p, t), q)
    return (p, (-a, -b)), ((0, 0), t)


def product_of(kind, one, other):
    """Return the matrix that does the other one first."""
    (p, q), (_, t) = one
    (r, s), (_, v) = other
    corner = pair_plus(pair_times(kind, p, s), pair_times(kind, q, v))
    return (pair_times(kind, p, r), corner), ((0, 0), pair_times(kind, t, v))


def taken_window(kind, matrix, window):
    """Return the window of the mates of all places, taken by a matrix, whose mates are in a window."""
    (p, q), (_, t) = matrix
    p, q, t = [pair_mate(kind, pair) + (1,) for pair in (p, q, t)]
    corners = []
    for x, y in window:
        corners.append((total(multiplied(kind, p, x), multiplied(kind, q, y)), multiplied(kind, t, y)))
    # The least corner may be another one then. The turns stay turns to the left, the mates being above 0.
    return from_least(kind, corners)


def shrunk_window(kind, unit, window):
    """Return the window of all places of a floor, times a unit."""
    shrink = pair_mate(kind, unit) + (1,)
    return tuple([(multiplied(kind, shrink, x), multiplied(kind, shrink, y)) for x, y in window])


def is_part_of(kind, one, other):
    """Tell whether a polygon lies in another one."""
    corners = [lifted(corner) for corner in one]
    for side in sides_of(kind, other):
        for corner in corners:
            if side_of(kind, side, corner) < 0:
                return False
    return True
