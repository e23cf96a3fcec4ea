"""What is right to be handed in, and the errors for what is not."""

from math import gcd

from quasifloors.errors import InvalidBox, InvalidFloor, InvalidKind, InvalidMatrix, InvalidNumber, InvalidPair
from quasifloors.errors import InvalidPatch, InvalidPlace, InvalidPoint, InvalidPolygon, InvalidRadius, InvalidRow
from quasifloors.errors import InvalidUnit
from quasifloors.exact import order_of, pair_mate, pair_norm, pair_sign
from quasifloors.shapes import goes_round
from quasifloors.windows import HERE, distance_of

KINDS = (2, 3, 5)


def is_integer(told):
    return isinstance(told, int) and not isinstance(told, bool)


def is_in_form(told):
    """Tell whether a value of whatever sort is a number."""
    if not isinstance(told, tuple) or len(told) != 3:
        return False
    a, b, n = told
    if not (is_integer(a) and is_integer(b) and is_integer(n)):
        return False
    return n > 0 and gcd(a, b, n) == 1


def is_point(told):
    if not isinstance(told, tuple) or len(told) != 2:
        return False
    return is_in_form(told[0]) and is_in_form(told[1])


def is_shape(kind, told):
    """Tell whether a value of whatever sort is a polygon of a kind that is right."""
    if not isinstance(told, tuple) or len(told) < 3:
        return False
    for corner in told:
        if not is_point(corner):
            return False
    return goes_round(kind, told)


def is_kind(told):
    return is_integer(told) and told in KINDS


def is_whole(told):
    """Tell whether a value of whatever sort is a pair of integers."""
    if not isinstance(told, tuple) or len(told) != 2:
        return False
    return is_integer(told[0]) and is_integer(told[1])


def is_pair_of_wholes(told):
    """Tell whether a value of whatever sort is a place."""
    if not isinstance(told, tuple) or len(told) != 2:
        return False
    return is_whole(told[0]) and is_whole(told[1])


def is_pair_of_pairs(told):
    """Tell whether a value of whatever sort has the form of a matrix: two pairs of pairs of integers."""
    if not isinstance(told, tuple) or len(told) != 2:
        return False
    return is_pair_of_wholes(told[0]) and is_pair_of_wholes(told[1])


def is_kind_and_window(told):
    """Tell whether a value of whatever sort is a floor."""
    if not isinstance(told, tuple) or len(told) != 2:
        return False
    return is_kind(told[0]) and is_shape(told[0], told[1])


def is_box(kind, told):
    """Tell whether a value of whatever sort is a box."""
    if not isinstance(told, tuple) or len(told) != 4:
        return False
    for end in told:
        if not is_in_form(end):
            return False
    left, low, right, high = told
    return order_of(kind, left, right) <= 0 and order_of(kind, low, high) <= 0


def is_patch(kind, r, told):
    """Tell whether a value of whatever sort is an ascending tuple of places that a patch to a radius may have."""
    if not isinstance(told, tuple):
        return False
    for step in told:
        if not is_pair_of_wholes(step) or step == HERE or distance_of(kind, step) > r:
            return False
    for one, other in zip(told, told[1:]):
        if one >= other:
            return False
    return True


def has_good_mate(kind, told):
    """Tell whether a value of whatever sort is a pair of norm 1 or -1 with a mate above 0."""
    if not is_whole(told) or pair_norm(kind, told) not in (1, -1):
        return False
    return pair_sign(kind, pair_mate(kind, told)) > 0


def is_stretch(kind, told):
    """Tell whether a value of whatever sort is a unit."""
    return has_good_mate(kind, told) and pair_sign(kind, told) > 0


def is_growing_stretch(kind, told):
    """Tell whether a value of whatever sort is a unit above 1."""
    return is_stretch(kind, told) and pair_sign(kind, (told[0] - 1, told[1])) > 0


def is_triangle(kind, told):
    """Tell whether a value of whatever sort is a matrix."""
    if not is_pair_of_pairs(told) or told[1][0] != (0, 0):
        return False
    return has_good_mate(kind, told[0][0]) and has_good_mate(kind, told[1][1])


def is_kind_and_ends(told):
    """Tell whether a value of whatever sort is a row."""
    if not isinstance(told, tuple) or len(told) != 3:
        return False
    kind, low, high = told
    return is_kind(kind) and is_in_form(low) and is_in_form(high) and order_of(kind, low, high) < 0


def check_kind(kind):
    if not is_kind(kind):
        raise InvalidKind(kind)


def check_integer(told):
    if not is_integer(told):
        raise InvalidNumber(told)


def check_number(told):
    if not is_in_form(told):
        raise InvalidNumber(told)


def check_point(told):
    if not is_point(told):
        raise InvalidPoint(told)


def check_polygon(kind, told):
    if not is_shape(kind, told):
        raise InvalidPolygon(told)


def check_place(told):
    if not is_pair_of_wholes(told):
        raise InvalidPlace(told)


def check_floor(told):
    if not is_kind_and_window(told):
        raise InvalidFloor(told)


def check_floors(one, other):
    """Refuse what are not two floors of a kind."""
    check_floor(one)
    check_floor(other)
    if one[0] != other[0]:
        raise InvalidPair((one, other))


def check_matrix(kind, told):
    if not is_triangle(kind, told):
        raise InvalidMatrix(told)


def check_unit(kind, told):
    if not is_stretch(kind, told):
        raise InvalidUnit(told)


def check_growing_unit(kind, told):
    if not is_growing_stretch(kind, told):
        raise InvalidUnit(told)


def check_row(told):
    if not is_kind_and_ends(told):
        raise InvalidRow(told)


def check_radius(told):
    if not is_integer(told) or told < 0:
        raise InvalidRadius(told)


def check_box(kind, told):
    if not is_box(kind, told):
        raise InvalidBox(told)


def check_patch(kind, r, told):
    if not is_patch(kind, r, told):
        raise InvalidPatch(told)
