"""How far it is to a patch from all places of a floor. Without any checks: what is handed in is right.

The places from which some step leads to a patch have their mates in the part of the patch, moved by minus the
mate of the step. By such moved polygons, covers, the window is covered bit by bit, each time where it is bare.
"""

from math import isqrt

from quasifloors.cells import sides_before
from quasifloors.exact import DENSITIES, ZERO, divided, floored, total
from quasifloors.lines import lifted
from quasifloors.shapes import area_of, carved, hold, polygon_of, shape_of, sides_of
from quasifloors.windows import box_of, distance_of, inner_place, mate_point, middle_of, steps_into

# So many covers of a point are kept for the shapes that the first one leaves.
ENOUGH = 8


def first_distance(kind, part):
    """Return a distance within which there are some places of a patch, on an average."""
    size = ZERO
    for corners in part:
        size = total(size, area_of(kind, corners))
    return isqrt(floored(kind, divided(kind, (DENSITIES[kind], 0, 1), size))) + 1


def covers_at(kind, part, point, r):
    """Return a list of (distance, sides), ascending by distance: those covers to a distance that have a point."""
    found = []
    for sides, frame in part:
        for step in steps_into(kind, sides, frame, point, r):
            found.append((distance_of(kind, step), step, sides))
    found = sorted(found, key=lambda told: told[0])[:ENOUGH]
    return [(distance, sides_before(kind, sides, step)) for distance, step, sides in found]


def nearest_covers(kind, part, point, r, far):
    """Return the covers that have a point, to a distance or, as long as there is none, to greater ones, at most far."""
    found = covers_at(kind, part, point, r)
    while not found and r != far:
        r = r + r // 2 + 1
        if far is not None:
            r = min(r, far)
        found = covers_at(kind, part, point, r)
    return found


def spot_of_cover(kind, covers, point):
    """Return the index of the first of some covers that has a point, None if none has."""
    triple = lifted(point)
    for at, sides in enumerate(covers):
        if hold(kind, sides, triple):
            return at
    return None


def coming_again(kind, window, polygons, far):
    """Return (distance, place): the least distance within which a patch with some polygons as its part comes again.

    If it is greater than far, the place is one from which the patch does not come within far, and the distance
    means nothing. Else the place is None. With None for far, the distance may be any.
    """
    part = [(sides_of(kind, corners), box_of(kind, corners)) for corners in polygons]
    start = first_distance(kind, polygons)
    if far is not None:
        start = min(start, far)
    needed = 0
    left = [(shape_of(kind, window), [])]
    while left:
        shape, covers = left.pop()
        corners = polygon_of(kind, shape)
        point = middle_of(corners)
        at = spot_of_cover(kind, covers, point)
        if at is None:
            found = nearest_covers(kind, part, point, start, far)
            if not found:
                # Only near to the middle this shape is surely bare, so a place may be covered yet.
                place = inner_place(kind, corners)
                found = covers_at(kind, part, mate_point(kind, place), far)
                if not found:
                    return needed, place
            # No lesser distance will do for this point. So what is no further need not be looked for again.
            needed = max(needed, found[0][0])
            covers = [sides for distance, sides in found if distance <= needed] + covers
            at = 0
        rest = covers[:at] + covers[at + 1:]
        left += [(outside, rest) for outside in carved(kind, shape, covers[at])[1]]
    return needed, None
