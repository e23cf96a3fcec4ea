"""Floors: all places whose mates are in a window."""

from quasifloors.checks import check_box, check_floor, check_kind, check_place, is_kind_and_window, is_pair_of_wholes
from quasifloors.exact import DENSITIES, reduced
from quasifloors.shapes import area_of, moved_by, sides_of
from quasifloors.windows import box_about, distance_of, is_of, mate_point, places_in, step_from


def is_place(told):
    """Tell whether a tuple of tuples of integers is a place."""
    return is_pair_of_wholes(told)


def is_floor(told):
    """Tell whether a tuple of an integer and a tuple is a floor."""
    return is_kind_and_window(told)


def mate_of(kind, place):
    """Return the point of the mates of both numbers of a place."""
    check_place(place)
    check_kind(kind)
    return mate_point(kind, place)


def point_of(place):
    """Return the point that a place is."""
    check_place(place)
    return place[0] + (1,), place[1] + (1,)


def added(one, other):
    check_place(one)
    check_place(other)
    (a, b), (c, d) = one
    (e, f), (g, h) = other
    return (a + e, b + f), (c + g, d + h)


def turned_about(place):
    """Return a place with each integer times -1."""
    check_place(place)
    (a, b), (c, d) = place
    return (-a, -b), (-c, -d)


def has(floor, place):
    """Tell whether a place is one of a floor."""
    check_floor(floor)
    check_place(place)
    kind, window = floor
    return is_of(kind, sides_of(kind, window), place)


def density(floor):
    """Return how many places are to an area of 1."""
    check_floor(floor)
    kind, window = floor
    a, b, n = area_of(kind, window)
    return reduced(a, b, n * DENSITIES[kind])


def places(floor, box):
    """Return the ascending list of the places of a floor in a box (left, low, right, high), its rims too."""
    check_floor(floor)
    kind, window = floor
    check_box(kind, box)
    return places_in(kind, window, box)


def moved_floor(floor, place):
    """Return the floor whose places are those of a floor, each added to a place."""
    check_floor(floor)
    check_place(place)
    kind, window = floor
    return kind, moved_by(window, mate_point(kind, place))


def nearest(floor, place):
    """Return the least integer so that a place of the floor is no further than this from a place, in each number."""
    check_floor(floor)
    check_place(place)
    kind, window = floor
    r = 0
    found = []
    while not found:
        found = places_in(kind, window, box_about(place, r))
        r = 2 * r + 1
    return min([distance_of(kind, step_from(place, other)) for other in found])
