"""cut, met and less of polygons.py, where nothing is wrong."""

import unittest
from itertools import product

from quasifloors import polygons
from quasifloors.fields import plus, scaled
from tests import reference as ref
from tests.reference import KINDS, TINY
from tests.samples import BIG, DIAMOND, DOWN, FLAT, INNER, ODD, SHAPES, SHARP, SIX, SQUARE, THIN, THREE, TWELVE
from tests.samples import at, grid, shifted

W = (0, 1, 1)
HALF = (1, 0, 2)
POINTS = grid()[::3]
LINES = [(at(0, 0), at(1, 0)), (at(0, 1), at(0, -1)), (at(-3, -3), at(3, 3)), (at(1, 1), at(0, 1)),
         ((W, (0, 0, 1)), ((0, 0, 1), W)), (((0, 1, 2), (-1, 0, 1)), ((0, 1, 2), (1, 0, 1))),
         (((1, -1, 1), (1, 0, 3)), (W, (2, -1, 5))), (at(40, 1), at(40, 2)), (at(-3, 1), at(3, -2))]


def asked(kind, polygons_seen):
    """Points at which it is asked which polygon has them: some everywhere, and all corners and middles of edges."""
    found = list(POINTS)
    for polygon in polygons_seen:
        for one, other in ref.edges(polygon):
            found.append(one)
            found.append(tuple([ref.unrooted(kind, tuple([part / 2 for part in ref.added(
                ref.rooted(kind, here), ref.rooted(kind, there))])) for here, there in zip(one, other)]))
    return sorted(set(found))


class Parts(unittest.TestCase):
    def right_parts(self, kind, parts):
        for part in parts:
            self.assertIsInstance(part, tuple)
            self.assertTrue(ref.is_right(kind, part), (kind, part))
            self.assertIs(polygons.is_polygon(kind, part), True)

    def holding(self, kind, parts, point):
        return len([part for part in parts if ref.inside(kind, part, point)])


class Cut(Parts):
    def check(self, kind, shape, one, other):
        found = polygons.cut(kind, shape, one, other)
        self.assertIs(type(found), tuple)
        self.assertEqual(len(found), 2)
        ends = [ref.rooted_point(kind, end) for end in (one, other)]
        turns = [ref.turn(kind, *ends, ref.rooted_point(kind, corner)) for corner in shape]
        for part, hand in zip(found, (1, -1)):
            self.assertEqual(part is not None, hand in turns)
            if part is not None:
                for corner in part:
                    self.assertNotEqual(ref.turn(kind, *ends, ref.rooted_point(kind, corner)), -hand)
        parts = [part for part in found if part is not None]
        self.right_parts(kind, parts)
        self.assertEqual(polygons.sum_of(kind, parts), ref.area(kind, shape))
        self.assertEqual(polygons.cut(kind, shape, other, one), found[::-1])
        return found

    def test_lines(self):
        for kind in KINDS:
            for shape, (one, other) in product(SHAPES, LINES):
                self.check(kind, shape, one, other)

    def test_each_point_is_in_one_part(self):
        for kind in KINDS:
            for shape, (one, other) in product((SQUARE, ODD, SIX), LINES[:7:2]):
                parts = [part for part in polygons.cut(kind, shape, one, other) if part is not None]
                for point in asked(kind, [shape] + parts):
                    self.assertEqual(self.holding(kind, parts, point), ref.inside(kind, shape, point))
                    for part in parts:
                        self.assertIs(polygons.is_in(kind, part, point), ref.inside(kind, part, point))

    def test_square(self):
        for kind in KINDS:
            left, right = self.check(kind, SQUARE, (HALF, (7, 0, 1)), (HALF, (8, 0, 1)))
            self.assertEqual(left, (at(0, 0), (HALF, (0, 0, 1)), (HALF, (1, 0, 1)), at(0, 1)))
            self.assertEqual(right, ((HALF, (0, 0, 1)), at(1, 0), at(1, 1), (HALF, (1, 0, 1))))
            found = polygons.cut(other=at(5, 5), one=at(-1, -1), polygon=SQUARE, kind=kind)
            self.assertEqual(found, ((at(0, 0), at(1, 1), at(0, 1)), (at(0, 0), at(1, 0), at(1, 1))))

    def test_through_corners(self):
        for kind in KINDS:
            for shape in SHAPES:
                for k, one in enumerate(shape):
                    for j, other in enumerate(shape):
                        if k < j:
                            left, right = self.check(kind, shape, one, other)
                            if j == k + 1:
                                self.assertEqual((left, right), (shape, None))
                            elif (k, j) != (0, len(shape) - 1):
                                self.assertEqual(set(left) & set(right), {one, other})
                                self.assertEqual(set(right), set(shape[k:j + 1]))

    def test_through_one_corner_and_beside(self):
        for kind in KINDS:
            self.assertEqual(self.check(kind, SQUARE, at(0, 0), at(1, -1)), (SQUARE, None))
            self.assertEqual(self.check(kind, SQUARE, at(1, -1), at(0, 0)), (None, SQUARE))
            self.assertEqual(self.check(kind, SQUARE, at(1, 1), at(1, 0)), (None, SQUARE))
            self.assertEqual(self.check(kind, SQUARE, at(1, 9), at(1, 12)), (SQUARE, None))
            self.assertEqual(self.check(kind, SQUARE, at(2, 0), at(2, 1)), (SQUARE, None))
            self.assertEqual(self.check(kind, SQUARE, at(2, 1), at(2, 0)), (None, SQUARE))
            self.assertEqual(self.check(kind, THREE, at(0, 2), at(1, 0)),
                             ((at(0, 2), at(1, 0), at(2, 0)), (at(0, 0), at(1, 0), at(0, 2))))

    def test_very_near_to_an_edge(self):
        for kind in KINDS:
            tiny = ref.power(kind, TINY[kind], 400)
            back = scaled(tiny, -1)
            one, other = ((0, 0, 1), tiny), ((1, 0, 1), tiny)
            left, right = self.check(kind, SQUARE, one, other)
            self.assertEqual(right, (at(0, 0), at(1, 0), other, one))
            self.assertEqual(polygons.area(kind, right), tiny)
            self.assertEqual(self.check(kind, SQUARE, ((0, 0, 1), back), ((1, 0, 1), back)), (SQUARE, None))
            self.assertEqual(self.check(kind, SQUARE, at(0, 0), ((1, 0, 1), back)), (SQUARE, None))
            left, right = self.check(kind, SQUARE, at(0, 0), other)
            self.assertEqual(right, (at(0, 0), at(1, 0), other))
            # This one goes through the corner (1, 0), and just below the other ones.
            self.assertEqual(self.check(kind, SQUARE, ((0, 0, 1), back), ((2, 0, 1), tiny)), (SQUARE, None))

    def test_cut_again_and_again(self):
        for kind in KINDS:
            parts = [TWELVE]
            for one, other in LINES[:7]:
                parts = [half for part in parts for half in polygons.cut(kind, part, one, other) if half is not None]
            self.right_parts(kind, parts)
            self.assertGreater(len(parts), 10)
            self.assertEqual(polygons.sum_of(kind, parts), ref.area(kind, TWELVE))
            for point in POINTS:
                self.assertEqual(self.holding(kind, parts, point), ref.inside(kind, TWELVE, point))


class MetAndLess(Parts):
    def check(self, kind, one, other, points):
        """What both have and what the one has more make up the one, without a point twice."""
        both = polygons.met(kind, one, other)
        rest = polygons.less(kind, one, other)
        self.assertIs(type(rest), tuple)
        self.assertEqual(list(rest), sorted(rest))
        common = [] if both is None else [both]
        self.right_parts(kind, common + list(rest))
        self.assertEqual(polygons.sum_of(kind, common + list(rest)), ref.area(kind, one))
        self.assertEqual(polygons.met(kind, other, one), both)
        for point in points:
            in_one, in_other = ref.inside(kind, one, point), ref.inside(kind, other, point)
            self.assertEqual(self.holding(kind, common, point), in_one and in_other)
            self.assertEqual(self.holding(kind, rest, point), in_one and not in_other)
        return both, rest

    def test_all_samples(self):
        for kind in KINDS:
            for one, other in product(SHAPES, SHAPES):
                self.check(kind, one, other, POINTS[::9])

    def test_each_point(self):
        for kind in KINDS:
            for one, other in [(SQUARE, DIAMOND), (THREE, ODD), (ODD, THREE), (SIX, DOWN), (DOWN, SIX), (FLAT, SHARP)]:
                parts = [one, other, *polygons.less(kind, one, other)]
                both = polygons.met(kind, one, other)
                self.check(kind, one, other, asked(kind, parts + ([both] if both else [])))

    def test_apart(self):
        for kind in KINDS:
            for other in (shifted(SQUARE, 3, 0), shifted(SQUARE, 0, -4), shifted(SQUARE, -2, 5), shifted(THREE, 1, 1)):
                self.assertEqual(self.check(kind, SQUARE, other, POINTS[::5]), (None, (SQUARE,)))

    def test_side_by_side(self):
        for kind in KINDS:
            for other in (shifted(SQUARE, 1, 0), shifted(SQUARE, -1, 0), shifted(SQUARE, 0, 1), shifted(SQUARE, 0, -1),
                          shifted(SQUARE, 1, 1), shifted(SQUARE, -1, 1), (at(1, -3), at(4, 0), at(1, 3)),
                          (at(1, 1), at(3, 0), at(3, 4)), (at(0, 2), at(2, 0), at(2, 2))):
                self.assertEqual(self.check(kind, SQUARE, other, POINTS[::5]), (None, (SQUARE,)))

    def test_alike(self):
        for kind in KINDS:
            for shape in SHAPES:
                self.assertEqual(self.check(kind, shape, shape, POINTS[::9]), (shape, ()))

    def test_one_within_the_other(self):
        for kind in KINDS:
            for one, other in [(SQUARE, BIG), (INNER, BIG), (SQUARE, INNER), (THREE, BIG), (SIX, TWELVE)]:
                self.assertEqual(self.check(kind, one, other, POINTS[::9]), (one, ()))
            both, rest = self.check(kind, BIG, INNER, POINTS)
            self.assertEqual((both, polygons.sum_of(kind, rest)), (INNER, (32, 0, 1)))

    def test_crossing(self):
        for kind in KINDS:
            cross = (at(-5, 0), at(5, 0), at(5, 1), at(-5, 1))
            upright = (at(0, -5), at(1, -5), at(1, 5), at(0, 5))
            both, rest = self.check(kind, cross, upright, POINTS)
            self.assertEqual(both, SQUARE)
            self.assertEqual(rest, ((at(-5, 0), at(0, 0), at(0, 1), at(-5, 1)), (at(1, 0), at(5, 0), at(5, 1), at(1, 1))))
            both, rest = self.check(kind, SQUARE, ((HALF, HALF), at(2, 0), at(2, 2)), POINTS)
            self.assertEqual(polygons.area(kind, both), (1, 0, 6))

    def test_by_name(self):
        for kind in KINDS:
            self.assertEqual(polygons.met(other=INNER, one=BIG, kind=kind), INNER)
            self.assertEqual(polygons.less(other=BIG, one=INNER, kind=kind), ())
            self.assertEqual(polygons.less(other=INNER, one=BIG, kind=kind), polygons.less(kind, BIG, INNER))

    def test_moved_by_w(self):
        for kind in KINDS:
            less_one = (-1, 1, 1)
            there = tuple([(plus(x, less_one), plus(y, less_one)) for x, y in SQUARE])
            both, rest = self.check(kind, SQUARE, there, POINTS)
            # They have the square from w less 1 to 1 in common.
            side = (2, -1, 1)
            self.assertEqual(both[0], (less_one, less_one))
            self.assertEqual(polygons.area(kind, both), ref.unrooted(kind, ref.multiplied(
                kind, ref.rooted(kind, side), ref.rooted(kind, side))))

    def test_very_near(self):
        for kind in KINDS:
            tiny = ref.power(kind, TINY[kind], 300)
            for step in (tiny, scaled(tiny, -1)):
                there = tuple([(plus(plus(x, (1, 0, 1)), step), y) for x, y in SQUARE])
                both = polygons.met(kind, SQUARE, there)
                rest = polygons.less(kind, SQUARE, there)
                if step == tiny:
                    self.assertEqual((both, rest), (None, (SQUARE,)))
                else:
                    edge = plus((1, 0, 1), step)
                    self.assertEqual(both, ((edge, (0, 0, 1)), at(1, 0), at(1, 1), (edge, (1, 0, 1))))
                    self.assertEqual(rest, ((at(0, 0), (edge, (0, 0, 1)), (edge, (1, 0, 1)), at(0, 1)),))

    def test_thin(self):
        for kind in KINDS:
            both, rest = self.check(kind, THIN, SQUARE, POINTS[::5])
            self.assertIsNotNone(both)
            both, rest = self.check(kind, BIG, THIN, POINTS[::5])
            self.assertEqual(both, THIN)


if __name__ == "__main__":
    unittest.main()
