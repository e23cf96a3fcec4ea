"""What is right to be handed in, and the errors for what is not."""

from math import gcd

from quasifloors.errors import InvalidBox, InvalidFloor, InvalidKind, InvalidNumber, InvalidPatch, InvalidPlace
from quasifloors.errors import InvalidPoint, InvalidPolygon, InvalidRadius
from quasifloors.exact import order_of
from quasifloors.shapes import goes_round
from quasifloors.windows import HERE, distance_of

KINDS = (2, 3, 5)


def is_integer(told):
    return isinstance(told, int) and not isinstance(told, bool)


def is_in_form(told):
    """Tell whether a value of whatever sort is a number."""
    if not isinstance(told, tuple) or len(told) != 3:
        return False
    a, b, n = told
    if not (is_integer(a) and is_integer(b) and is_integer(n)):
        return False
    return n > 0 and gcd(a, b, n) == 1


def is_point(told):
    if not isinstance(told, tuple) or len(told) != 2:
        return False
    return is_in_form(told[0]) and is_in_form(told[1])


def is_shape(kind, told):
    """Tell whether a value of whatever sort is a polygon of a kind that is right."""
    if not isinstance(told, tuple) or len(told) < 3:
        return False
    for corner in told:
        if not is_point(corner):
            return False
    return goes_round(kind, told)


def is_kind(told):
    return is_integer(told) and told in KINDS


def is_whole(told):
    """Tell whether a value of whatever sort is a pair of integers."""
    if not isinstance(told, tuple) or len(told) != 2:
        return False
    return is_integer(told[0]) and is_integer(told[1])


def is_pair_of_wholes(told):
    """Tell whether a value of whatever sort is a place."""
    if not isinstance(told, tuple) or len(told) != 2:
        return False
    return is_whole(told[0]) and is_whole(told[1])


def is_kind_and_window(told):
    """Tell whether a value of whatever sort is a floor."""
    if not isinstance(told, tuple) or len(told) != 2:
        return False
    return is_kind(told[0]) and is_shape(told[0], told[1])


def is_box(kind, told):
    """Tell whether a value of whatever sort is a box."""
    if not isinstance(told, tuple) or len(told) != 4:
        return False
    for end in told:
        if not is_in_form(end):
            return False
    left, low, right, high = told
    return order_of(kind, left, right) <= 0 and order_of(kind, low, high) <= 0


def is_patch(kind, r, told):
    """Tell whether a value of whatever sort is an ascending tuple of places that a patch to a radius may have."""
    if not isinstance(told, tuple):
        return False
    for step in told:
        if not is_pair_of_wholes(step) or step == HERE or distance_of(kind, step) > r:
            return False
    for one, other in zip(told, told[1:]):
        if one >= other:
            return False
    return True


def check_kind(kind):
    if not is_kind(kind):
        raise InvalidKind(kind)


def check_integer(told):
    if not is_integer(told):
        raise InvalidNumber(told)


def check_number(told):
    if not is_in_form(told):
        raise InvalidNumber(told)


def check_point(told):
    if not is_point(told):
        raise InvalidPoint(told)


def check_polygon(kind, told):
    if not is_shape(kind, told):
        raise InvalidPolygon(told)


def check_place(told):
    if not is_pair_of_wholes(told):
        raise InvalidPlace(told)


def check_floor(told):
    if not is_kind_and_window(told):
        raise InvalidFloor(told)


def check_radius(told):
    if not is_integer(told) or told < 0:
        raise InvalidRadius(told)


def check_box(kind, told):
    if not is_box(kind, told):
        raise InvalidBox(told)


def check_patch(kind, r, told):
    if not is_patch(kind, r, told):
        raise InvalidPatch(told)
