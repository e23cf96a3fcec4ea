"""Numbers of a kind, without any checks: what is handed in is right.

A number is a tuple (a, b, n), as the document has it: (a + b w) / n. A sum
a + b w alone is a pair (a, b) here: most of the work needs no division, and
the common divisors are then looked for only once, at the end.
"""

from math import gcd, isqrt

ZERO = (0, 0, 1)
STRETCH_UNITS = {2: (3, 2, 1), 3: (2, 1, 1), 5: (1, 1, 1)}
# By these the area of a window is to be divided, for how many places are to an area of 1.
DENSITIES = {2: 8, 3: 12, 5: 5}


def pair_times(kind, one, other):
    a, b = one
    c, d = other
    if kind == 5:
        return a * c + b * d, a * d + b * c + b * d
    return a * c + kind * b * d, a * d + b * c


def pair_plus(one, other):
    return one[0] + other[0], one[1] + other[1]


def pair_minus(one, other):
    return one[0] - other[0], one[1] - other[1]


def pair_mate(kind, pair):
    a, b = pair
    if kind == 5:
        return a + b, -b
    return a, -b


def pair_norm(kind, pair):
    """Return a pair times its mate, which is an integer."""
    a, b = pair
    if kind == 5:
        return a * a + a * b - b * b
    return a * a - kind * b * b


def over_root(kind, pair):
    """Return (c, d, n) so that a + b w is (c + d root of the kind) / n."""
    a, b = pair
    if kind == 5:
        return 2 * a + b, b, 2
    return a, b, 1


def pair_sign(kind, pair):
    """Return -1, 0 or 1, without a root: the squares tell which part is greater, and so has the sign."""
    a, b = pair
    if kind == 5:
        a = a + a + b
    if a >= 0 and b >= 0:
        return 1 if a > 0 or b > 0 else 0
    if a <= 0 and b <= 0:
        return -1
    greater = a if a * a > kind * b * b else b
    return 1 if greater > 0 else -1


def reduced(a, b, n):
    """Return (a + b w) / n in its form; n is not 0."""
    shared = gcd(a, b, n)
    if n < 0:
        shared = -shared
    return a // shared, b // shared, n // shared


def quotient(kind, top, bottom):
    """Return the number that one pair by another one is."""
    if bottom[1] == 0:
        return reduced(top[0], top[1], bottom[0])
    a, b = pair_times(kind, top, pair_mate(kind, bottom))
    return reduced(a, b, pair_norm(kind, bottom))


def multiplied(kind, p, q):
    a, b = pair_times(kind, p[:2], q[:2])
    return reduced(a, b, p[2] * q[2])


def divided(kind, p, q):
    """Return p divided by q, which is not 0."""
    return quotient(kind, (p[0] * q[2], p[1] * q[2]), (q[0] * p[2], q[1] * p[2]))


def negative(p):
    return -p[0], -p[1], p[2]


def total(p, q):
    a, b, n = p
    c, d, m = q
    return reduced(a * m + c * n, b * m + d * n, n * m)


def difference(p, q):
    a, b, n = p
    c, d, m = q
    return reduced(a * m - c * n, b * m - d * n, n * m)


def difference_pair(p, q):
    """Return p less q, times the positive integer that makes it a pair."""
    a, b, n = p
    c, d, m = q
    return a * m - c * n, b * m - d * n


def order_of(kind, p, q):
    """Return -1, 0 or 1 as p is less than q, the same, greater."""
    return pair_sign(kind, difference_pair(p, q))


def floored(kind, p):
    """Return the greatest integer that is at most p, which need not be in its form."""
    a, b, n = p
    c, d, m = over_root(kind, (a, b))
    root = isqrt(kind * d * d)
    if d < 0:
        # The root of what is no square lies above its floor, so minus the root below minus it.
        root = -root - 1
    return (c + root) // (n * m)


def ceiled(kind, p):
    """Return the least integer that is at least p, which need not be in its form."""
    return -floored(kind, negative(p))
