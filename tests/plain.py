"""Floors, reckoned plainly: places by going through whole numbers, patches by asking for each place.

What is in a window tells reference.py; what is cut off a window the functions of polygons.py, which have tests
of their own.
"""


from quasifloors import polygons
from tests import reference as ref

HERE = ((0, 0), (0, 0))
ROOTS = {2: 2 ** 0.5, 3: 3 ** 0.5, 5: (1 + 5 ** 0.5) / 2}


def whole(pair):
    return pair[0], pair[1], 1


def mate(kind, pair):
    a, b = pair
    return (a + b, -b, 1) if kind == 5 else (a, -b, 1)


def mate_point(kind, place):
    return mate(kind, place[0]), mate(kind, place[1])


def added(one, other):
    return tuple([(a + c, b + d) for (a, b), (c, d) in zip(one, other)])


def back(place):
    return tuple([(-a, -b) for a, b in place])


def opposite(point):
    return tuple([(-a, -b, n) for a, b, n in point])


def real(kind, p):
    """About what a number is: good enough to leave out what is far off."""
    return (p[0] + p[1] * ROOTS[kind]) / p[2]


def at_most(kind, p, q):
    return ref.sign_of(kind, ref.taken_off(ref.rooted(kind, q), ref.rooted(kind, p))) >= 0


def between(kind, low, p, high):
    if not real(kind, low) - 1e-6 < real(kind, p) < real(kind, high) + 1e-6:
        return False
    return at_most(kind, low, p) and at_most(kind, p, high)


def wholes(kind, low, high, least, most):
    """All whole numbers from low to high, whose mates are from least to most."""
    apart = real(kind, (0, 1, 1)) - real(kind, mate(kind, (0, 1)))
    first = int((real(kind, low) - real(kind, most)) / apart) - 2
    last = int((real(kind, high) - real(kind, least)) / apart) + 2
    found = []
    for b in range(first, last + 1):
        middle = real(kind, (0, b, 1))
        for a in range(int(real(kind, low) - middle) - 2, int(real(kind, high) - middle) + 3):
            if between(kind, low, (a, b, 1), high) and between(kind, least, mate(kind, (a, b)), most):
                found.append((a, b))
    return found


def ends(kind, numbers):
    """The least and the greatest of some numbers."""
    low = high = numbers[0]
    for p in numbers[1:]:
        low = p if at_most(kind, p, low) else low
        high = p if at_most(kind, high, p) else high
    return low, high


def has(floor, place):
    kind, window = floor
    return ref.inside(kind, window, mate_point(kind, place))


def places(floor, box):
    kind, window = floor
    left, low, right, high = box
    across = wholes(kind, left, right, *ends(kind, [x for x, _ in window]))
    up = wholes(kind, low, high, *ends(kind, [y for _, y in window]))
    return sorted([(x, y) for x in across for y in up if has(floor, (x, y))])


def box_about(place, r):
    (a, b), (c, d) = place
    return (a - r, b, 1), (c - r, d, 1), (a + r, b, 1), (c + r, d, 1)


def difference(one, other):
    return added(other, back(one))


def patch_of(floor, place, r):
    return tuple([difference(place, other) for other in places(floor, box_about(place, r)) if other != place])


def within(kind, step, r):
    return all([between(kind, (-r, 0, 1), whole(pair), (r, 0, 1)) for pair in step])


def distance(kind, step):
    r = 0
    while not within(kind, step, r):
        r += 1
    return r


def steps(floor, r):
    """All places within r but (0, 0), whose mates are not so great that no two points of the window differ so."""
    kind, window = floor
    found = []
    for k in (0, 1):
        low, high = [ref.rooted(kind, end) for end in ends(kind, [corner[k] for corner in window])]
        wide = ref.unrooted(kind, ref.taken_off(high, low))
        found.append(wholes(kind, (-r, 0, 1), (r, 0, 1), (-wide[0], -wide[1], wide[2]), wide))
    return sorted([(x, y) for x in found[0] for y in found[1] if (x, y) != HERE])


def before(floor, step):
    """The window, moved by minus the mate of a place."""
    kind, window = floor
    return polygons.moved(kind, window, opposite(mate_point(kind, step)))


def near(floor, r):
    return [step for step in steps(floor, r) if polygons.met(floor[0], floor[1], before(floor, step)) is not None]


def parts(floor, r):
    """All patches that come, each with the list of polygons into which its part is cut."""
    kind, window = floor
    found = [((), window)]
    for step in near(floor, r):
        there = before(floor, step)
        finer = []
        for patch, piece in found:
            inside = polygons.met(kind, piece, there)
            if inside is not None:
                finer.append((patch + (step,), inside))
            finer += [(patch, rest) for rest in polygons.less(kind, piece, there)]
        found = finer
    together = {}
    for patch, piece in found:
        together.setdefault(patch, []).append(piece)
    return together


def share(floor, pieces):
    kind, window = floor
    return ref.unrooted(kind, ref.divided(kind, ref.rooted(kind, polygons.sum_of(kind, pieces)),
                                          ref.rooted(kind, ref.area(kind, window))))


def left_bare(floor, pieces, far):
    """What of the window is in none of the pieces, moved by minus the mates of all places to a distance."""
    kind, window = floor
    bare = [window]
    for step in [HERE] + steps(floor, far):
        for piece in pieces:
            there = polygons.moved(kind, piece, opposite(mate_point(kind, step)))
            bare = [rest for told in bare for rest in polygons.less(kind, told, there)]
    return bare


def around(floor, place, r, patch, far):
    """Whether a patch comes within a distance of a place."""
    there = set(places(floor, box_about(place, far + r)))
    asked = steps(floor, r)
    for other in there:
        if within(floor[0], difference(place, other), far):
            if tuple([step for step in asked if added(other, step) in there]) == patch:
                return True
    return False
