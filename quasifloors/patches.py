"""Patches: what is around a place of a floor, and how often it comes."""

from quasifloors.cells import part_of, share_of, shares_of, sides_before
from quasifloors.checks import check_floor, check_patch, check_place, check_radius
from quasifloors.errors import InvalidPair, NoPatch, NotInFloor
from quasifloors.shapes import ascending, left_of_all, polygon_of, shape_of, sides_of
from quasifloors.windows import HERE, distance_of, inner_place, is_of, near_places, patch_at


def check_patch_of(floor, r, patch):
    check_floor(floor)
    check_radius(r)
    check_patch(floor[0], r, patch)


def near(floor, r):
    """Return the ascending list of the places within a radius that stand in patches of the floor."""
    check_floor(floor)
    check_radius(r)
    kind, window = floor
    return near_places(kind, window, r)


def patch_of(floor, place, r):
    """Return the patch of a place of the floor."""
    check_floor(floor)
    check_place(place)
    check_radius(r)
    kind, window = floor
    if not is_of(kind, sides_of(kind, window), place):
        raise NotInFloor(place)
    return patch_at(kind, window, place, r)


def part(floor, r, patch):
    """Return an ascending tuple of polygons that make up the part of a patch in the window."""
    check_patch_of(floor, r, patch)
    kind, window = floor
    return ascending(kind, part_of(kind, window, r, patch))


def share(floor, r, patch):
    """Return the area of the part of a patch by the window's."""
    check_patch_of(floor, r, patch)
    kind, window = floor
    return share_of(kind, window, part_of(kind, window, r, patch))


def comes(floor, r, patch):
    """Tell whether a patch comes."""
    check_patch_of(floor, r, patch)
    kind, window = floor
    return len(part_of(kind, window, r, patch)) > 0


def patches(floor, r):
    """Return the ascending list of (patch, share) of all patches that come."""
    check_floor(floor)
    check_radius(r)
    kind, window = floor
    shares = shares_of(kind, window, r)
    return sorted(shares.items())


def found(floor, r, patch):
    """Return a place of the floor that has a patch."""
    check_patch_of(floor, r, patch)
    kind, window = floor
    shapes = part_of(kind, window, r, patch)
    if not shapes:
        raise NoPatch(patch)
    return inner_place(kind, polygon_of(kind, shapes[0]))


def how_often(floor, r, step):
    """Return the share of the places whose patch has a place."""
    check_floor(floor)
    check_place(step)
    check_radius(r)
    kind, window = floor
    if step == HERE or distance_of(kind, step) > r:
        raise InvalidPair((r, step))
    sides = sides_before(kind, sides_of(kind, window), step)
    both = left_of_all(kind, shape_of(kind, window), sides)
    return share_of(kind, window, [] if both is None else [both])
