"""Growing rules. Without any checks: what is handed in is right.

A place whose mate is x leads, stretched by a unit u with the mate u', and a step with the mate d' added, to one
whose mate is u' x + d'. So the mates of the places that come of a part of the window by a step are the part,
times u', moved by d': a cover. A step holds for a part if its cover lies in the window.
"""

from quasifloors.cells import part_of, parts_of
from quasifloors.exact import difference, pair_minus, pair_plus, pair_sign, pair_times
from quasifloors.lines import height, lifted, lifted_alike, moved_back
from quasifloors.matrices import shrunk_window
from quasifloors.shapes import carved, hold, polygon_of, shape_of, sides_of
from quasifloors.windows import box_of, highest, inner_place, mate_point, mate_triple, middle_of, patch_at
from quasifloors.windows import places_beside


def box_of_steps(unit):
    """Return the box of the points with no number of a greater absolute value than a unit."""
    a, b = unit
    return (-a, -b, 1), (-a, -b, 1), (a, b, 1), (a, b, 1)


def steps_for_some(kind, window, sides, unit):
    """Return the ascending list of (step, heights): all steps by which some point of the window may lead into it.

    By the heights a step makes a point higher over each of the window's sides.
    """
    small = shrunk_window(kind, unit, window)
    triples = lifted_alike(small)
    scale = triples[0][2][0]
    lines = []
    for line in sides:
        (a, b), (c, d), _ = line
        lines.append(((a * scale, b * scale), (c * scale, d * scale), highest(kind, line, triples)))
    left, low, right, high = box_of(kind, window)
    least, bottom, most, top = box_of(kind, small)
    frame = difference(left, most), difference(low, top), difference(right, least), difference(high, bottom)
    steps = sorted(places_beside(kind, lines, frame, box_of_steps(unit)))
    return [(step, heights_of(kind, sides, step)) for step in steps]


def heights_of(kind, sides, step):
    x, y, _ = mate_triple(kind, step)
    return [pair_plus(pair_times(kind, across, x), pair_times(kind, up, y)) for across, up, off in sides]


def lowest(kind, line, triples):
    """Return the least height of some points, whose third pairs are the same, over a line."""
    least = height(kind, line, triples[0])
    for triple in triples[1:]:
        other = height(kind, line, triple)
        if pair_sign(kind, pair_minus(other, least)) < 0:
            least = other
    return least


def steps_for_all(kind, sides, unit, told, shapes):
    """Return the tuple of those of some steps whose covers of all shapes lie to the left of the lines."""
    corners = []
    for shape in shapes:
        corners += shrunk_window(kind, unit, polygon_of(kind, shape))
    triples = lifted_alike(corners)
    scale = triples[0][2][0]
    lows = [lowest(kind, line, triples) for line in sides]
    return tuple([step for step, heights in told if is_high_enough(kind, lows, scale, heights)])


def is_high_enough(kind, lows, scale, heights):
    for (a, b), (c, d) in zip(lows, heights):
        if pair_sign(kind, (a + c * scale, b + d * scale)) < 0:
            return False
    return True


def parts_with_steps(kind, window, unit, r):
    """Return the ascending list of (patch, shapes of its part, steps) of all patches to a radius that come."""
    sides = sides_of(kind, window)
    told = steps_for_some(kind, window, sides, unit)
    parts = parts_of(kind, window, r)
    return [(patch, parts[patch], steps_for_all(kind, sides, unit, told, parts[patch])) for patch in sorted(parts)]


def places_grown(kind, window, unit, r, some):
    """Return the ascending tuple of the places that come of some places by the rule."""
    sides = sides_of(kind, window)
    told = steps_for_some(kind, window, sides, unit)
    rule = {}
    found = {}
    for place in some:
        patch = patch_at(kind, window, place, r)
        if patch not in rule:
            rule[patch] = steps_for_all(kind, sides, unit, told, part_of(kind, window, r, patch))
        x, y = pair_times(kind, unit, place[0]), pair_times(kind, unit, place[1])
        for across, up in rule[patch]:
            found[pair_plus(x, across), pair_plus(y, up)] = True
    return tuple(sorted(found))


def covered_by_steps(kind, sides, rule):
    """Return a dict of all steps: the lines of the polygons, with all points of the window from which a step holds."""
    covered = {}
    for _, shapes, steps in rule:
        parts = [sides_of(kind, polygon_of(kind, shape)) for shape in shapes]
        for step in steps:
            covered.setdefault(step, []).append(parts)
    found = {}
    for step, told in covered.items():
        # A step that holds for all patches holds for the whole window, which is one polygon.
        found[step] = [sides] if len(told) == len(rule) else [lines for parts in told for lines in parts]
    return found


def cover_at(kind, unit, sides, covered, point):
    """Return the lines of a cover that has a point, None if none has."""
    triple = lifted(point)
    for step in covered:
        source = source_of(kind, unit, step, triple)
        if hold(kind, sides, source):
            for lines in covered[step]:
                if hold(kind, lines, source):
                    return stretched_lines(kind, unit, step, lines)
    return None


def source_of(kind, unit, step, triple):
    """Return the point that, times the mate of a unit, is by the mate of a step away from a point."""
    x, y, z = triple
    across, up, _ = mate_triple(kind, step)
    x = pair_minus(x, pair_times(kind, across, z))
    y = pair_minus(y, pair_times(kind, up, z))
    return pair_times(kind, unit, x), pair_times(kind, unit, y), z


def stretched_lines(kind, unit, step, lines):
    """Return the lines at which points have the heights that their sources have at some lines."""
    (a, b), (c, d), _ = mate_triple(kind, step)
    told = []
    for across, up, off in lines:
        line = pair_times(kind, unit, across), pair_times(kind, unit, up), off
        told.append(moved_back(kind, line, (-a, -b), (-c, -d)))
    return told


def place_of_none(kind, window, unit, r):
    """Return a place of the floor that comes of none by the rule, None if there is none."""
    sides = sides_of(kind, window)
    covered = covered_by_steps(kind, sides, parts_with_steps(kind, window, unit, r))
    left = [shape_of(kind, window)]
    while left:
        shape = left.pop()
        corners = polygon_of(kind, shape)
        cover = cover_at(kind, unit, sides, covered, middle_of(corners))
        if cover is None:
            # Only near to the middle this shape is surely bare, so a place may be covered yet.
            place = inner_place(kind, corners)
            cover = cover_at(kind, unit, sides, covered, mate_point(kind, place))
            if cover is None:
                return place
        left += carved(kind, shape, cover)[1]
    return None
