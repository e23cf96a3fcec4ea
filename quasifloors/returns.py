"""How far it is from all places of a floor to a patch."""

from quasifloors.cells import parts_of, part_of
from quasifloors.checks import check_floor, check_patch, check_radius
from quasifloors.covers import coming_again
from quasifloors.errors import NoPatch
from quasifloors.shapes import ascending


def part_that_comes(floor, r, patch):
    """Return the polygons of the part of a patch, which is to come."""
    check_floor(floor)
    check_radius(r)
    kind, window = floor
    check_patch(kind, r, patch)
    shapes = part_of(kind, window, r, patch)
    if not shapes:
        raise NoPatch(patch)
    return ascending(kind, shapes)


def again(floor, r, patch):
    """Return the least distance within which a patch comes again."""
    polygons = part_that_comes(floor, r, patch)
    kind, window = floor
    return coming_again(kind, window, polygons, None)[0]


def is_again(floor, r, patch, far):
    """Tell whether a patch comes again within a distance."""
    return lonely(floor, r, patch, far) is None


def lonely(floor, r, patch, far):
    """Return a place of the floor from which a patch does not come within a distance, None if there is none."""
    polygons = part_that_comes(floor, r, patch)
    check_radius(far)
    kind, window = floor
    return coming_again(kind, window, polygons, far)[1]


def all_again(floor, r):
    """Return the greatest distance within which a patch comes again, of all patches that come."""
    check_floor(floor)
    check_radius(r)
    kind, window = floor
    greatest = 0
    for patch in parts_of(kind, window, r):
        polygons = ascending(kind, part_of(kind, window, r, patch))
        greatest = max(greatest, coming_again(kind, window, polygons, None)[0])
    return greatest
