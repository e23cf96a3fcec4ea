"""The parts of patches in a window. Without any checks: what is handed in is right."""

from quasifloors.exact import ZERO, divided, pair_mate, total
from quasifloors.lines import moved_back
from quasifloors.shapes import area_of, carved, extent_of, left_of_all, shape_of, sides_of
from quasifloors.windows import near_places


def sides_before(kind, sides, step):
    """Return the lines of the window moved by minus the mate of a place.

    A place whose mate is in this window leads, by the step, to one whose mate is in the window itself.
    """
    x, y = pair_mate(kind, step[0]), pair_mate(kind, step[1])
    return [moved_back(kind, side, x, y) for side in sides]


def cells_of(kind, window, r):
    """Return a list of (patch, shape): shapes into which a window is cut, and the patch that comes there."""
    sides = sides_of(kind, window)
    cells = [((), shape_of(kind, window))]
    for step in near_places(kind, window, r):
        before = sides_before(kind, sides, step)
        finer = []
        for patch, shape in cells:
            inside, outsides = carved(kind, shape, before)
            if inside is not None:
                finer.append((patch + (step,), inside))
            finer += [(patch, outside) for outside in outsides]
        cells = finer
    return cells


def share_of(kind, window, shapes):
    """Return the areas of some shapes, together, by the window's."""
    areas = ZERO
    for shape in shapes:
        areas = total(areas, extent_of(kind, shape))
    return divided(kind, areas, area_of(kind, window))


def parts_of(kind, window, r):
    """Return a dict of all patches to a radius that come, with lists of the shapes of their parts."""
    parts = {}
    for patch, shape in cells_of(kind, window, r):
        parts.setdefault(patch, []).append(shape)
    return parts


def shares_of(kind, window, r):
    """Return a dict of all patches to a radius that come, with their shares."""
    parts = parts_of(kind, window, r)
    return {patch: share_of(kind, window, parts[patch]) for patch in parts}


def part_of(kind, window, r, patch):
    """Return a list of shapes that make up the part of a patch, none if it does not come."""
    sides = sides_of(kind, window)
    shape = shape_of(kind, window)
    for step in patch:
        shape = left_of_all(kind, shape, sides_before(kind, sides, step))
        if shape is None:
            return []
    rest = [shape]
    for step in near_places(kind, window, r):
        if step not in patch:
            rest = outside_of_all(kind, rest, sides_before(kind, sides, step))
    return rest


def outside_of_all(kind, shapes, sides):
    """Return a list of shapes that make up what of some shapes is not in a window."""
    rest = []
    for shape in shapes:
        rest += carved(kind, shape, sides)[1]
    return rest
