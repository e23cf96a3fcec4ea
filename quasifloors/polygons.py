"""Polygons whose corners are points of a kind."""

from quasifloors.checks import check_kind, check_point, check_polygon, is_shape
from quasifloors.errors import InvalidPair
from quasifloors.exact import ZERO, total
from quasifloors.shapes import area_of, common, halves, holds, moved_by, outermost, remaining


def is_polygon(kind, told):
    """Tell whether a tuple of pairs of tuples of three integers is a polygon."""
    check_kind(kind)
    return is_shape(kind, told)


def polygon(kind, points):
    """Return the least polygon that has all points of a list or tuple inside or on its rim."""
    check_kind(kind)
    for point in points:
        check_point(point)
    corners = outermost(kind, points)
    if corners is None:
        raise InvalidPair(points)
    return corners


def area(kind, polygon):
    check_kind(kind)
    check_polygon(kind, polygon)
    return area_of(kind, polygon)


def is_in(kind, polygon, point):
    """Tell whether a point, moved a little to the right and then by much less upward, is inside."""
    check_kind(kind)
    check_polygon(kind, polygon)
    check_point(point)
    return holds(kind, polygon, point)


def moved(kind, polygon, point):
    """Return a polygon with a point added to each of its points."""
    check_kind(kind)
    check_polygon(kind, polygon)
    check_point(point)
    return moved_by(polygon, point)


def cut(kind, polygon, one, other):
    """Return what of a polygon lies to the left and to the right of the line from one point to another."""
    check_kind(kind)
    check_polygon(kind, polygon)
    check_point(one)
    check_point(other)
    if one == other:
        raise InvalidPair((one, other))
    return halves(kind, polygon, one, other)


def met(kind, one, other):
    """Return the polygon of what two polygons have in common, None if it has no area."""
    check_kind(kind)
    check_polygon(kind, one)
    check_polygon(kind, other)
    return common(kind, one, other)


def less(kind, one, other):
    """Return an ascending tuple of polygons with just the points of the one that the other one has not."""
    check_kind(kind)
    check_polygon(kind, one)
    check_polygon(kind, other)
    return remaining(kind, one, other)


def sum_of(kind, polygons):
    """Return the sum of the areas of a list or tuple of polygons."""
    check_kind(kind)
    for told in polygons:
        check_polygon(kind, told)
    areas = ZERO
    for told in polygons:
        areas = total(areas, area_of(kind, told))
    return areas
