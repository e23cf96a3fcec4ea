"""Numbers of the kinds 2, 3 and 5: (a, b, n) is (a + b w) / n."""

from quasifloors.checks import check_integer, check_kind, check_number, is_in_form
from quasifloors.errors import DividedByZero, InvalidNumber
from quasifloors.exact import STRETCH_UNITS, difference, divided, floored, multiplied, order_of, pair_mate, pair_norm
from quasifloors.exact import pair_sign, reduced, total

UNITS = {2: (1, 1, 1), 3: (2, 1, 1), 5: (0, 1, 1)}


def is_number(told):
    """Tell whether a tuple of three integers is a number, of any kind."""
    return is_in_form(told)


def number(a, b, n):
    """Return (a + b w) / n in its form."""
    for told in (a, b, n):
        check_integer(told)
    if n == 0:
        raise DividedByZero((a, b))
    return reduced(a, b, n)


def plus(p, q):
    check_number(p)
    check_number(q)
    return total(p, q)


def minus(p, q):
    check_number(p)
    check_number(q)
    return difference(p, q)


def scaled(p, k):
    """Return p times an integer."""
    check_number(p)
    check_integer(k)
    return reduced(p[0] * k, p[1] * k, p[2])


def times(kind, p, q):
    check_kind(kind)
    check_number(p)
    check_number(q)
    return multiplied(kind, p, q)


def by(kind, p, q):
    """Return p divided by q."""
    check_kind(kind)
    check_number(p)
    check_number(q)
    if q[0] == 0 and q[1] == 0:
        raise DividedByZero(p)
    return divided(kind, p, q)


def mate(kind, p):
    """Return what p is with the mate of w in the place of w."""
    check_kind(kind)
    check_number(p)
    a, b = pair_mate(kind, p[:2])
    return a, b, p[2]


def norm(kind, p):
    """Return p times its mate."""
    check_kind(kind)
    check_number(p)
    return reduced(pair_norm(kind, p[:2]), 0, p[2] * p[2])


def sign(kind, p):
    """Return -1, 0 or 1."""
    check_kind(kind)
    check_number(p)
    return pair_sign(kind, p[:2])


def compared(kind, p, q):
    """Return -1, 0 or 1 as p is less than q, the same, greater."""
    check_kind(kind)
    check_number(p)
    check_number(q)
    return order_of(kind, p, q)


def floor_of(kind, p):
    """Return the greatest integer that is at most p."""
    check_kind(kind)
    check_number(p)
    return floored(kind, p)


def about(kind, p, n):
    """Return the greatest integer that is at most p times 10 to the power n."""
    check_kind(kind)
    check_number(p)
    check_integer(n)
    if n < 0:
        raise InvalidNumber(n)
    tens = 1
    for _ in range(n):
        tens = tens * 10
    return floored(kind, (p[0] * tens, p[1] * tens, p[2]))


def unit(kind):
    """Return the least whole number above 1 whose norm is 1 or -1."""
    check_kind(kind)
    return UNITS[kind]


def stretch_unit(kind):
    """Return the least whole number above 1, with a mate above 0, whose norm is 1."""
    check_kind(kind)
    return STRETCH_UNITS[kind]
