"""Floors, taken by matrices and stretched by units."""

from quasifloors.checks import check_floor, check_floors, check_kind, check_matrix, check_place, check_radius
from quasifloors.checks import check_unit, is_stretch, is_triangle
from quasifloors.exact import STRETCH_UNITS
from quasifloors.matrices import inverse_matrix, is_part_of, product_of, shrunk_window, taken_place, taken_window


def is_matrix(kind, told):
    """Tell whether a tuple of the form of a matrix is one of a kind."""
    check_kind(kind)
    return is_triangle(kind, told)


def is_unit(kind, told):
    """Tell whether a pair of integers is a unit of a kind: of norm 1, above 0, with a mate above 0."""
    check_kind(kind)
    return is_stretch(kind, told)


def taken(kind, matrix, place):
    """Return the place that a matrix takes a place to."""
    check_kind(kind)
    check_matrix(kind, matrix)
    check_place(place)
    return taken_place(kind, matrix, place)


def undone(kind, matrix):
    """Return the matrix that takes each place back that a matrix has taken."""
    check_kind(kind)
    check_matrix(kind, matrix)
    return inverse_matrix(kind, matrix)


def behind(kind, one, other):
    """Return the matrix that does first the other one and then the one."""
    check_kind(kind)
    check_matrix(kind, one)
    check_matrix(kind, other)
    return product_of(kind, one, other)


def taken_floor(floor, matrix):
    """Return the floor of the places of a floor, taken by a matrix."""
    check_floor(floor)
    kind, window = floor
    check_matrix(kind, matrix)
    return kind, taken_window(kind, matrix, window)


def stretched(floor, unit):
    """Return the floor of the places of a floor, times a unit."""
    check_floor(floor)
    kind, window = floor
    check_unit(kind, unit)
    return kind, shrunk_window(kind, unit, window)


def lies_within(one, other):
    """Tell whether all places of the one are places of the other one."""
    check_floors(one, other)
    return is_part_of(one[0], one[1], other[1])


def least_power(one, other, most):
    """Return how often the one is to be stretched, at least, to lie within the other one, None if not to the most."""
    check_floors(one, other)
    check_radius(most)
    kind, window = one
    for n in range(most + 1):
        if is_part_of(kind, window, other[1]):
            return n
        window = shrunk_window(kind, STRETCH_UNITS[kind][:2], window)
    return None
