"""Which floors are one, which are alike, and how far others are apart."""

from quasifloors.cells import parts_of, shares_of
from quasifloors.checks import check_floors, check_radius
from quasifloors.exact import ZERO, difference, negative, pair_sign, reduced, total
from quasifloors.shapes import moved_by


def move_between(one, other):
    """Return the point by which a polygon is moved to be another one, None if it is not so."""
    (x, y), (across, up) = one[0], other[0]
    point = (difference(across, x), difference(up, y))
    return point if moved_by(one, point) == other else None


def missing(patches, others):
    """Return the list of those patches that are not among other ones."""
    return [patch for patch in patches if patch not in others]


def is_one(one, other):
    """Tell whether two floors of a kind have the same places."""
    check_floors(one, other)
    return one == other


def alike(one, other):
    """Return the point by which the one's window is moved to be the other one's, None if it is not so."""
    check_floors(one, other)
    return move_between(one[1], other[1])


def first_unlike(one, other, most):
    """Return (r, patch): the least radius to which the patches differ, and the least patch that just one has.

    None if they have the same ones to each radius to the most.
    """
    check_floors(one, other)
    check_radius(most)
    if move_between(one[1], other[1]) is not None:
        return None
    for r in range(most + 1):
        ones, others = parts_of(one[0], one[1], r), parts_of(other[0], other[1], r)
        odd = missing(ones, others) + missing(others, ones)
        if odd:
            return r, min(odd)
    return None


def apart(one, other, r):
    """Return half of the sum of how much the shares of all patches to a radius differ."""
    check_floors(one, other)
    check_radius(r)
    kind = one[0]
    ones, others = shares_of(kind, one[1], r), shares_of(kind, other[1], r)
    gaps = ZERO
    for patch in list(ones) + missing(others, ones):
        gap = difference(ones.get(patch, ZERO), others.get(patch, ZERO))
        gaps = total(gaps, gap if pair_sign(kind, gap[:2]) > 0 else negative(gap))
    return reduced(gaps[0], gaps[1], 2 * gaps[2])
