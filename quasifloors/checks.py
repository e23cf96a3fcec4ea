"""What is right to be handed in, and the errors for what is not."""

from math import gcd

from quasifloors.errors import InvalidKind, InvalidNumber, InvalidPoint, InvalidPolygon
from quasifloors.shapes import goes_round

KINDS = (2, 3, 5)


def is_integer(told):
    return isinstance(told, int) and not isinstance(told, bool)


def is_in_form(told):
    """Tell whether a value of whatever sort is a number."""
    if not isinstance(told, tuple) or len(told) != 3:
        return False
    a, b, n = told
    if not (is_integer(a) and is_integer(b) and is_integer(n)):
        return False
    return n > 0 and gcd(a, b, n) == 1


def is_point(told):
    if not isinstance(told, tuple) or len(told) != 2:
        return False
    return is_in_form(told[0]) and is_in_form(told[1])


def is_shape(kind, told):
    """Tell whether a value of whatever sort is a polygon of a kind that is right."""
    if not isinstance(told, tuple) or len(told) < 3:
        return False
    for corner in told:
        if not is_point(corner):
            return False
    return goes_round(kind, told)


def check_kind(kind):
    if not is_integer(kind) or kind not in KINDS:
        raise InvalidKind(kind)


def check_integer(told):
    if not is_integer(told):
        raise InvalidNumber(told)


def check_number(told):
    if not is_in_form(told):
        raise InvalidNumber(told)


def check_point(told):
    if not is_point(told):
        raise InvalidPoint(told)


def check_polygon(kind, told):
    if not is_shape(kind, told):
        raise InvalidPolygon(told)
