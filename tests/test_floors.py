"""floors.py, where nothing is wrong."""

import unittest
from itertools import product

from quasifloors import fields, floors, polygons
from tests import plain
from tests import reference as ref
from tests.plain import HERE
from tests.reference import KINDS
from tests.samples import AWAY, BIG, INNER, SHARP, SQUARE, THIN, THREE, TWELVE, TWO, at, shifted
from tests.samples import floors as samples

W = (0, 1, 1)
LESS_W = (0, -1, 1)
NO_PLACES = [(), ((0, 0),), ((0, 0), (0, 0), (0, 0)), ((0, 0), (0,)), ((0, 0), (0, 0, 0)), ((0, 0, 1), (0, 0, 1)),
             [(0, 0), (0, 0)], ((0, 0), [0, 0]), ((True, 0), (0, 0)), ((0, 0), (0, False)), ((0, 0), (0, 1.0)),
             ((0, "0"), (0, 0)), ((0, None), (0, 0)), None, 0, "ab", (0, 0), ((0, 0), 0), b"ab"]
NO_FLOORS = [(), (2,), (2, SQUARE, 0), [2, SQUARE], (2, list(SQUARE)), (4, SQUARE), (True, SQUARE), (None, SQUARE),
             ("2", SQUARE), (2.0, SQUARE), (2, SQUARE[::-1]), (2, SQUARE[1:] + SQUARE[:1]), (2, SQUARE[:2]), (2, ()),
             (SQUARE, 2), SQUARE, None, 2, "2", (2, None), (2, 2), ((2,), SQUARE), ([2], SQUARE), (0, SQUARE)]


class Forms(unittest.TestCase):
    def test_places(self):
        for told in (HERE, ((1, -2), (3, 4)), ((-10 ** 400, 0), (0, 7 ** 300)), ((2, 2), (4, 4))):
            self.assertIs(floors.is_place(told), True)
            self.assertIs(floors.is_place(told=told), True)
        for told in NO_PLACES:
            self.assertIs(floors.is_place(told), False, told)

    def test_floors(self):
        for kind, window in product(KINDS, (SQUARE, BIG, THIN, TWELVE, AWAY)):
            self.assertIs(floors.is_floor((kind, window)), True)
        self.assertIs(floors.is_floor(told=(2, SQUARE)), True)
        for told in NO_FLOORS:
            self.assertIs(floors.is_floor(told), False, told)
        # w is less than 8 by 5 for the kind 2 alone.
        odd = (at(0, 0), (W, (0, 0, 1)), ((8, 0, 5), (1, 0, 100)), at(1, 1))
        self.assertEqual([floors.is_floor((kind, odd)) for kind in KINDS], [True, False, False])


class Single(unittest.TestCase):
    PLACES = [HERE, ((1, 0), (0, 1)), ((1, 1), (0, 2)), ((-3, 7), (999, -999)), ((2, 4), (-6, -8))]

    def test_mates_and_points(self):
        for kind, place in product(KINDS, self.PLACES):
            self.assertEqual(floors.mate_of(kind, place), plain.mate_point(kind, place))
            self.assertEqual(floors.mate_of(place=place, kind=kind),
                             tuple([fields.mate(kind, number) for number in floors.point_of(place)]))
        self.assertEqual(floors.point_of(((1, -2), (30, 4))), ((1, -2, 1), (30, 4, 1)))
        self.assertEqual(floors.point_of(place=HERE), at(0, 0))
        self.assertEqual([floors.mate_of(kind, ((0, 1), (5, -2))) for kind in KINDS],
                         [((0, -1, 1), (5, 2, 1)), ((0, -1, 1), (5, 2, 1)), ((1, -1, 1), (3, 2, 1))])

    def test_added_and_turned(self):
        for one, other in product(self.PLACES, self.PLACES):
            self.assertEqual(floors.added(one, other), plain.added(one, other))
            self.assertEqual(floors.added(other=one, one=other), plain.added(one, other))
            self.assertEqual(floors.added(one, floors.turned_about(one)), HERE)
        self.assertEqual(floors.added(((1, 2), (3, 4)), ((10, 20), (30, 40))), ((11, 22), (33, 44)))
        self.assertEqual(floors.turned_about(((1, -2), (0, 4))), ((-1, 2), (0, -4)))
        self.assertEqual(floors.turned_about(place=((5, 0), (-1, 0))), ((-5, 0), (1, 0)))

    def test_density(self):
        for kind, divisor in ((2, 8), (3, 12), (5, 5)):
            for floor in samples(kind):
                x, y = ref.rooted(kind, ref.area(*floor))
                self.assertEqual(floors.density(floor), ref.unrooted(kind, (x / divisor, y / divisor)))
        self.assertEqual([floors.density((kind, TWO)) for kind in KINDS], [(1, 0, 2), (1, 0, 3), (4, 0, 5)])
        self.assertEqual(floors.density(floor=(2, SQUARE)), (1, 0, 8))

    def test_density_is_how_many_there_are(self):
        for kind in KINDS:
            for floor in ((kind, TWO), (kind, INNER)):
                count = len(floors.places(floor, ((-30, 0, 1), (-30, 0, 1), (30, 0, 1), (30, 0, 1))))
                self.assertEqual(count, len(plain.places(floor, ((-30, 0, 1), (-30, 0, 1), (30, 0, 1), (30, 0, 1)))))
                right = 3600 * plain.real(kind, floors.density(floor))
                self.assertLess(abs(count - right), right / 10)


class Has(unittest.TestCase):
    def test_rims_and_corners(self):
        # The mates are at the corners, in the middles of the edges, inside and outside.
        for kind in KINDS:
            floor = (kind, TWO)
            found = [(a, c) for a in range(-1, 4) for c in range(-1, 4) if floors.has(floor, ((a, 0), (c, 0)))]
            self.assertEqual(found, [(0, 0), (0, 1), (1, 0), (1, 1)])
            floor = (kind, THREE)
            found = [(a, c) for a in range(-1, 4) for c in range(-1, 4) if floors.has(floor, ((a, 0), (c, 0)))]
            self.assertEqual(found, [(0, 0), (0, 1), (1, 0)])
            floor = (kind, (at(-1, 0), at(0, -1), at(1, 0), at(0, 1)))
            found = [(a, c) for a in range(-2, 3) for c in range(-2, 3) if floors.has(floor, ((a, 0), (c, 0)))]
            self.assertEqual(found, [(-1, 0), (0, 0)])

    def test_corners_with_roots(self):
        for kind in KINDS:
            # The corners are mates of the places ((0, x), (0, y)) for x and y from 0 to 1.
            corner = plain.mate(kind, (0, 1))
            window = polygons.polygon(kind, [(x, y) for x in ((0, 0, 1), corner) for y in ((0, 0, 1), corner)])
            found = [(x, y) for x in range(-1, 3) for y in range(-1, 3) if floors.has((kind, window), ((0, x), (0, y)))]
            # The mate of w is below 0: so it is the left and low corner that is the mate of ((0, 1), (0, 1)).
            self.assertEqual(found, [(1, 1)])

    def test_all(self):
        for kind in KINDS:
            for floor in samples(kind):
                off = (0, 0) if floor[1] != AWAY else (-300, 999)
                for a, b, c, d in product((-1, 0, 1, 2), (-1, 0, 1), (-1, 0, 2), (-1, 0, 1)):
                    place = ((a + off[0], b), (c + off[1], d))
                    self.assertIs(floors.has(floor, place), plain.has(floor, place))
        self.assertIs(floors.has(place=HERE, floor=(2, SQUARE)), True)

    def test_far_away(self):
        for kind in KINDS:
            unit = fields.stretch_unit(kind)
            power = ref.power(kind, unit, 300)
            # The mate of this is very near to 0, on the right.
            place = (power[:2], power[:2])
            self.assertIs(floors.has((kind, SQUARE), place), True)
            self.assertIs(floors.has((kind, SQUARE), floors.turned_about(place)), False)
            self.assertIs(floors.has((kind, INNER), floors.turned_about(place)), True)


def boxes(kind):
    """Boxes of many forms: small, wide, high, of no width or height, with ends that are places' numbers."""
    ends = [(0, 0, 1), (1, 1, 1), (-7, 0, 2), (5, 3, 1), (30, -1, 3)]
    found = []
    for x, y in product(ends[:3], ends[1:4]):
        for wide, high in (((7, 0, 1), (5, 0, 1)), ((0, 0, 1), (9, 0, 1)), ((9, 0, 1), (0, 0, 1)),
                           ((0, 0, 1), (0, 0, 1)), ((2, 2, 1), (0, 3, 1)), ((40, 0, 1), (1, 0, 2)),
                           ((1, 0, 3), (0, 20, 1))):
            found.append((x, y, fields.plus(x, wide), fields.plus(y, high)))
    return found


class Places(unittest.TestCase):
    def test_all(self):
        for kind in KINDS:
            for k, floor in enumerate(samples(kind)):
                for box in boxes(kind)[k % 5::5]:
                    found = floors.places(floor, box)
                    self.assertIs(type(found), list)
                    self.assertEqual(found, plain.places(floor, box))
                    self.assertEqual(found, sorted(set(found)))

    def test_ends_belong_to_the_box(self):
        for kind in KINDS:
            floor = (kind, INNER)
            # All four corners of the box are places of the floor.
            power = fields.stretch_unit(kind)
            low, high = fields.scaled(power, -1), power
            self.assertIs(floors.has(floor, (low[:2], high[:2])), True)
            found = floors.places(floor, (low, low, high, high))
            for place in product((low[:2], high[:2]), repeat=2):
                self.assertIn(place, found)
            self.assertEqual(floors.places(floor, (high, low, high, low)), [(high[:2], low[:2])])
            self.assertEqual(floors.places(floor=floor, box=(high, high, high, high)), [(high[:2], high[:2])])
            inner = (low, low, fields.minus(high, (1, 0, 999)), high)
            self.assertEqual([place for place in floors.places(floor, inner) if place[0] == high[:2]], [])
            half = (1, 0, 2)
            self.assertEqual(floors.places(floor, (half, low, half, high)), [])

    def test_no_width_at_a_corner_of_the_window(self):
        # At the mate of this first number the window has one point alone.
        for kind in KINDS:
            floor = (kind, (at(0, 0), at(1, -1), at(1, 1)))
            box = ((0, 0, 1), (-9, 0, 1), (0, 0, 1), (9, 0, 1))
            self.assertEqual(floors.places(floor, box), [HERE])
            floor = (kind, (at(-1, -1), at(0, 0), at(-1, 1)))
            self.assertEqual(floors.places(floor, box), [])
            for window in ((at(-1, 1), at(0, 0), at(1, 1)), (at(-1, -1), at(1, -1), at(0, 0))):
                self.assertEqual(floors.places((kind, window), turned_box(box)), [])

    def test_far_boxes(self):
        for kind in KINDS:
            for floor in samples(kind)[::4]:
                box = ((990, 999, 1), (-999, -990, 1), (998, 999, 1), (-990, -990, 1))
                self.assertEqual(floors.places(floor, box), plain.places(floor, box))
                self.assertGreater(len(floors.places(floor, box)), 0)

    def test_in_two_halves(self):
        for kind in KINDS:
            for floor in samples(kind):
                box = ((-3, 0, 1), (-4, 0, 1), (6, 0, 1), (6, 0, 1))
                cut = (1, 0, 7)
                one = floors.places(floor, (box[0], box[1], cut, box[3]))
                other = floors.places(floor, (cut, box[1], box[2], box[3]))
                self.assertEqual(sorted(one + other), floors.places(floor, box))


def turned_box(box):
    return box[1], box[0], box[3], box[2]


class Moved(unittest.TestCase):
    def test_all(self):
        for kind in KINDS:
            for floor, place in product(samples(kind), (HERE, ((1, 1), (0, 0)), ((-3, 2), (7, -5)))):
                there = floors.moved_floor(floor, place)
                self.assertTrue(floors.is_floor(there))
                self.assertEqual(there, (kind, polygons.moved(kind, floor[1], plain.mate_point(kind, place))))
                box = ((-2, 0, 1), (-3, 0, 1), (3, 0, 1), (2, 0, 1))
                x, y = floors.point_of(place)
                beyond = tuple([fields.plus(end, step) for end, step in zip(box, (x, y, x, y))])
                self.assertEqual(floors.places(there, beyond),
                                 [plain.added(told, place) for told in floors.places(floor, box)])
                self.assertEqual(there == floor, place == HERE)
        self.assertEqual(floors.moved_floor(place=((0, 0), (1, 0)), floor=(3, SQUARE)), (3, shifted(SQUARE, 0, 1)))

    def test_never_the_same(self):
        for kind in KINDS:
            for a, b, c, d in product((-1, 0, 1), repeat=4):
                floor = (kind, SHARP)
                self.assertEqual(floors.moved_floor(floor, ((a, b), (c, d))) == floor, (a, b, c, d) == (0, 0, 0, 0))


class Nearest(unittest.TestCase):
    def test_all(self):
        for kind in KINDS:
            for floor in samples(kind):
                for place in (HERE, ((3, 0), (0, 0)), ((0, 2), (5, -1)), ((100, -30), (-4, 4))):
                    r = floors.nearest(floor, place)
                    self.assertIs(type(r), int)
                    self.assertTrue(plain.places(floor, plain.box_about(place, r)))
                    if r > 0:
                        self.assertEqual(plain.places(floor, plain.box_about(place, r - 1)), [])
                    self.assertEqual(r == 0, plain.has(floor, place))
        self.assertEqual(floors.nearest(place=HERE, floor=(2, SQUARE)), 0)

    def test_slim_windows(self):
        slim = (at(-4, 0), at(4, 0), ((4, 0, 1), (1, 0, 16)))
        for kind in KINDS:
            for window in (slim, polygons.polygon(kind, [(y, x) for x, y in slim])):
                for place in (((0, 0), (5, 7)), ((999, -999), (999, 999))):
                    r = floors.nearest((kind, window), place)
                    there = [floors.places((kind, window), plain.box_about(place, far)) for far in range(r + 1)]
                    self.assertEqual([len(found) > 0 for found in there], [False] * r + [True])


if __name__ == "__main__":
    unittest.main()
