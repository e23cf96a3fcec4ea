"""The functions of polygons.py that take one polygon, where nothing is wrong."""

import unittest
from itertools import combinations, permutations, product

from quasifloors import polygons
from quasifloors.fields import minus, plus, scaled, sign
from tests import reference as ref
from tests.reference import KINDS, TINY
from tests.samples import BIG, DIAMOND, INNER, ODD, SHAPES, SIX, SQUARE, THIN, THREE, TWELVE, at, grid, shifted

W = (0, 1, 1)


class Outermost(unittest.TestCase):
    def check(self, kind, points):
        """The right polygon: its corners are points handed in, and none of these is outside."""
        found = polygons.polygon(kind, points)
        self.assertIsInstance(found, tuple)
        self.assertTrue(ref.is_right(kind, found))
        self.assertLessEqual(set(found), set(points))
        rooted = [ref.rooted_point(kind, corner) for corner in found]
        for point in points:
            for one, other in ref.edges(rooted):
                self.assertGreaterEqual(ref.turn(kind, one, other, ref.rooted_point(kind, point)), 0)
        return found

    def test_samples_are_right(self):
        for kind in KINDS:
            for shape in SHAPES:
                self.assertTrue(ref.is_right(kind, shape), (kind, shape))

    def test_corners_in_any_sequence(self):
        for kind in KINDS:
            for shape in SHAPES:
                for k in range(len(shape)):
                    turned = shape[k:] + shape[:k]
                    self.assertEqual(polygons.polygon(kind, list(turned)), shape)
                    self.assertEqual(polygons.polygon(kind, turned[::-1]), shape)
                    self.assertEqual(polygons.polygon(points=turned[::2] + turned[1::2], kind=kind), shape)
            for told in permutations(ODD):
                self.assertEqual(polygons.polygon(kind, told), ODD)

    def test_points_many_times(self):
        for kind in KINDS:
            for shape in SHAPES:
                self.assertEqual(polygons.polygon(kind, shape + shape[::-1] + shape[:2]), shape)

    def test_points_inside_and_on_the_rim(self):
        for kind in KINDS:
            more = [at(0, 0), at(3, 0), at(-3, 1), at(0, -3), (W, W), ((0, 1, 2), (3, 0, 1)), ((-3, 0, 1), (0, -1, 3))]
            self.assertEqual(polygons.polygon(kind, more + list(BIG)), BIG)
            self.assertEqual(polygons.polygon(kind, list(BIG) + more[::-1]), BIG)
            self.assertEqual(self.check(kind, [at(0, 0), at(4, 0), at(2, 0), at(1, 0), at(0, 4), at(2, 2), at(1, 1)]),
                             (at(0, 0), at(4, 0), at(0, 4)))

    def test_grids(self):
        for kind in KINDS:
            points = grid()
            for start in range(0, len(points) - 12, 3):
                self.check(kind, points[start:start + 12:2] + points[::17])
            self.check(kind, points)

    def test_points_of_one_first_number(self):
        for kind in KINDS:
            points = [(W, (k, 0, 1)) for k in (3, -1, 2, 0)] + [at(0, 0)]
            self.assertEqual(polygons.polygon(kind, points), (at(0, 0), (W, (-1, 0, 1)), (W, (3, 0, 1))))
            points = [(W, (k, 0, 1)) for k in (3, -1, 2, 0)] + [at(5, 0)]
            self.assertEqual(polygons.polygon(kind, points), ((W, (-1, 0, 1)), at(5, 0), (W, (3, 0, 1))))

    def test_real_numbers_are_compared(self):
        # (1, -1, 1) is below 0 and the least one of 2 and 5, though (0, ..) is the lesser tuple.
        for kind in KINDS:
            found = self.check(kind, [at(0, 0), ((1, -1, 1), (0, 0, 1)), at(0, 1)])
            self.assertEqual(found[0], ((1, -1, 1), (0, 0, 1)))

    def test_very_near_points(self):
        for kind in KINDS:
            tiny = ref.power(kind, TINY[kind], 600)
            self.assertEqual(sign(kind, tiny), 1)
            up = ((1, 0, 1), scaled(tiny, -1))
            down = ((1, 0, 1), tiny)
            self.assertEqual(polygons.polygon(kind, [at(0, 0), at(2, 0), down, at(1, 1)]),
                             (at(0, 0), at(2, 0), at(1, 1)))
            self.assertEqual(polygons.polygon(kind, [at(0, 0), at(2, 0), up, at(1, 1)]),
                             (at(0, 0), up, at(2, 0), at(1, 1)))
            self.assertEqual(polygons.polygon(kind, [at(0, 0), at(2, 0), up]), (at(0, 0), up, at(2, 0)))
            self.assertEqual(polygons.polygon(kind, [at(0, 0), at(2, 0), down]), (at(0, 0), at(2, 0), down))

    def test_the_list_is_unchanged(self):
        points = [at(1, 1), at(0, 0), at(1, 0), at(1, 0)]
        polygons.polygon(2, points)
        self.assertEqual(points, [at(1, 1), at(0, 0), at(1, 0), at(1, 0)])


class Told(unittest.TestCase):
    """is_polygon."""

    def told(self, kind, told, right):
        self.assertIs(polygons.is_polygon(kind, told), right, (kind, told))

    def test_right_ones(self):
        for kind in KINDS:
            for shape in SHAPES:
                self.told(kind, shape, True)
                self.assertIs(polygons.is_polygon(told=shape, kind=kind), True)

    def test_beginning_with_another_corner(self):
        for kind in KINDS:
            for shape in SHAPES:
                for k in range(1, len(shape)):
                    self.told(kind, shape[k:] + shape[:k], False)

    def test_turned_about(self):
        for kind in KINDS:
            for shape in SHAPES:
                self.told(kind, shape[::-1], False)
                self.told(kind, shape[:1] + shape[:0:-1], False)

    def test_corners_left_out(self):
        for kind in KINDS:
            for shape in SHAPES:
                for k in range(1, len(shape)):
                    self.told(kind, shape[:k] + shape[k + 1:], len(shape) > 3)
                self.told(kind, shape[:2], False)
                self.told(kind, shape[:1], False)
            self.told(kind, (), False)
            # Without its first corner the thin one has two left, the diamond begins with its least one again.
            self.told(kind, THIN[1:], False)
            self.told(kind, DIAMOND[1:], True)
            self.told(kind, SIX[1:], True)
            self.told(kind, BIG[1:], False)

    def test_corners_twice(self):
        for kind in KINDS:
            for shape in SHAPES:
                for k in range(len(shape)):
                    self.told(kind, shape[:k] + shape[k:k + 1] + shape[k:], False)
                    self.told(kind, shape + shape[k:k + 1], False)
                self.told(kind, shape + shape, False)
                self.told(kind, shape + shape + shape, False)

    def test_corners_exchanged(self):
        for kind in KINDS:
            for shape in SHAPES:
                for one, other in combinations(range(len(shape)), 2):
                    told = list(shape)
                    told[one], told[other] = told[other], told[one]
                    self.told(kind, tuple(told), False)

    def test_in_every_sequence(self):
        for kind in KINDS:
            for shape in (SQUARE, THREE, SIX, ODD):
                right = [told for told in permutations(shape) if polygons.is_polygon(kind, told)]
                self.assertEqual(right, [shape])

    def test_corners_in_one_line(self):
        for kind in KINDS:
            self.told(kind, (at(0, 0), at(1, 0), at(2, 0)), False)
            self.told(kind, (at(0, 0), at(1, 0), at(2, 0), at(0, 2)), False)
            self.told(kind, (at(0, 0), at(2, 0), at(1, 1), at(0, 2)), False)
            self.told(kind, (at(0, 0), at(2, 0), at(0, 2), at(0, 1)), False)
            self.told(kind, (at(0, -1), at(2, 0), at(0, 2), at(0, 0)), False)
            self.told(kind, (at(0, 0), (W, (0, 0, 1)), at(2, 0), at(2, 2)), False)
            self.told(kind, (at(0, 0), (W, W), at(2, 2)), False)
            self.told(kind, (at(0, 0), at(2, 0), at(1, 0)), False)
            self.told(kind, (at(0, 0), at(0, 1), at(0, 2)), False)

    def test_turning_to_the_right_once(self):
        for kind in KINDS:
            self.told(kind, (at(0, 0), at(4, 0), at(1, 1), at(0, 4)), False)
            self.told(kind, (at(0, 0), at(1, 1), at(4, 0), at(4, 4), at(0, 4)), False)
            self.told(kind, (at(-1, 2), at(0, 0), at(4, 0), at(4, 4), at(0, 4), at(1, 2)), False)

    def test_going_round_twice(self):
        # A star of five corners: each turn is to the left, but it goes round twice.
        five = (at(-4, 1), at(-3, -4), at(3, -4), at(4, 1), at(0, 4))
        for kind in KINDS:
            self.told(kind, five, True)
            self.told(kind, (five[0], five[2], five[4], five[1], five[3]), False)
            twice = (at(-4, 0), at(0, -4), at(4, 0), at(0, 4), at(-3, 0), at(0, -3), at(3, 0), at(0, 3))
            self.told(kind, twice[:4], True)
            self.told(kind, twice, False)
            for step in (5, 7, 11):
                self.told(kind, tuple([TWELVE[step * k % 12] for k in range(12)]), False)
            for step in (2, 3, 4):
                self.told(kind, tuple([five[step * k % 5] for k in range(5)]), False)

    def test_all_of_a_small_grid(self):
        points = [(x, y) for x in range(3) for y in range(3)]
        for many in (3, 4):
            for told in product(points, repeat=many):
                right = min(told) == told[0] and len(set(told)) == many and all(
                    (e[0] - b[0]) * (p[1] - b[1]) > (e[1] - b[1]) * (p[0] - b[0])
                    for b, e in ref.edges(told) for p in told if p not in (b, e))
                self.told(2, tuple([at(x, y) for x, y in told]), right)

    def test_two_rounds_with_corners_between(self):
        for kind in KINDS:
            inner = shifted(SQUARE, 1, 1)
            outer = (at(0, 0), at(3, 0), at(3, 3), at(0, 3))
            self.told(kind, outer + inner, False)
            self.told(kind, outer[:3] + inner[3:] + outer[3:], False)

    def test_numbers_out_of_their_form(self):
        for kind in KINDS:
            for wrong in [(0, 0, 2), (2, 0, 2), (1, 0, -1), (0, 0, 0), (1, 0), (1, 0, 1, 1), (True, 0, 1), (1, 0, True),
                          (1, False, 1), (1.0, 0, 1), [1, 0, 1], "101", None, 1]:
                self.told(kind, (at(0, 0), (wrong, (0, 0, 1)), at(1, 1), at(0, 1)), False)
                self.told(kind, (at(0, 0), at(1, 0), at(1, 1), ((0, 0, 1), wrong)), False)
                self.told(kind, ((wrong, (0, 0, 1)), at(1, 0), at(1, 1)), False)

    def test_no_tuples_of_pairs(self):
        for kind in KINDS:
            for wrong in [None, 1, True, "abc", list(SQUARE), (1, 2, 3), ((0, 0), (1, 0), (1, 1)), [], {}, (None,) * 3,
                          ((), (), ()), (SQUARE, SQUARE, SQUARE), tuple([list(corner) for corner in SQUARE]),
                          tuple([corner + ((0, 0, 1),) for corner in SQUARE]),
                          tuple([corner[:1] for corner in SQUARE])]:
                self.told(kind, wrong, False)

    def test_by_kind(self):
        # (0, 1, 1) is less than 8 by 5 of 2 alone, so the second corner bends the edge or does not.
        told = (at(0, 0), (W, (0, 0, 1)), ((8, 0, 5), (1, 0, 100)), at(1, 1))
        self.assertEqual([polygons.is_polygon(kind, told) for kind in KINDS], [True, False, False])
        told = (at(0, 0), (W, (-1, 0, 1)), ((17, 0, 10), (0, 0, 1)), at(1, 1))
        self.assertEqual([polygons.is_polygon(kind, told) for kind in KINDS],
                         [ref.is_right(kind, told) for kind in KINDS])

    def test_very_near_to_a_line(self):
        for kind in KINDS:
            tiny = ref.power(kind, TINY[kind], 700)
            for step, right in ((tiny, False), ((0, 0, 1), False), (scaled(tiny, -1), True)):
                self.told(kind, (at(0, 0), ((1, 0, 1), step), at(2, 0), at(1, 1)), right)
                self.told(kind, (at(0, 0), at(2, 0), at(2, 2), (plus((1, 0, 1), step), (1, 0, 1))), right)
            self.told(kind, (at(0, 0), at(2, 0), ((0, 0, 1), tiny)), True)
            self.told(kind, (at(0, 0), at(2, 0), (tiny, (1, 0, 1))), True)
            self.told(kind, (at(0, 0), at(2, 0), (scaled(tiny, -1), (1, 0, 1))), False)
            self.told(kind, ((scaled(tiny, -1), (1, 0, 1)), at(0, 0), at(2, 0)), True)


class Areas(unittest.TestCase):
    def test_areas(self):
        for kind in KINDS:
            for shape in SHAPES:
                self.assertEqual(polygons.area(kind, shape), ref.area(kind, shape))
                self.assertEqual(polygons.area(polygon=shape, kind=kind), ref.area(kind, shape))
            self.assertEqual(polygons.area(kind, SQUARE), (1, 0, 1))
            self.assertEqual(polygons.area(kind, THREE), (2, 0, 1))
            self.assertEqual(polygons.area(kind, THIN), (3, 0, 100))
            self.assertEqual(polygons.area(kind, shifted(SIX, 1000, -777)), (12, 0, 1))
            self.assertEqual(polygons.area(kind, (at(0, 0), (W, (0, 0, 1)), (W, (1, 0, 1)))), (0, 1, 2))
        square_of_w = (at(0, 0), (W, (0, 0, 1)), (W, W), ((0, 0, 1), W))
        self.assertEqual([polygons.area(kind, square_of_w) for kind in KINDS], [(2, 0, 1), (3, 0, 1), (1, 1, 1)])

    def test_a_tiny_area(self):
        for kind in KINDS:
            tiny = ref.power(kind, TINY[kind], 500)
            self.assertEqual(polygons.area(kind, (at(0, 0), at(2, 0), ((1, 0, 1), tiny))), tiny)

    def test_sum_of(self):
        for kind in KINDS:
            self.assertEqual(polygons.sum_of(kind, []), (0, 0, 1))
            self.assertEqual(polygons.sum_of(kind, ()), (0, 0, 1))
            self.assertEqual(polygons.sum_of(kind, [THIN]), (3, 0, 100))
            self.assertEqual(polygons.sum_of(kind, (SQUARE, SQUARE, SQUARE)), (3, 0, 1))
            right = (0, 0, 1)
            for shape in SHAPES:
                right = plus(right, ref.area(kind, shape))
            self.assertEqual(polygons.sum_of(kind, SHAPES), right)
            self.assertEqual(polygons.sum_of(polygons=tuple(SHAPES), kind=kind), right)
            told = [SQUARE, THIN]
            polygons.sum_of(kind, told)
            self.assertEqual(told, [SQUARE, THIN])

    def test_moved(self):
        for kind in KINDS:
            for shape in SHAPES:
                self.assertEqual(polygons.moved(kind, shape, at(0, 0)), shape)
                self.assertEqual(polygons.moved(kind, shape, at(3, -2)), shifted(shape, 3, -2))
                there = polygons.moved(point=((1, -2, 3), (7, 5, 2)), polygon=shape, kind=kind)
                self.assertTrue(ref.is_right(kind, there))
                self.assertEqual(there, tuple([(plus(x, (1, -2, 3)), plus(y, (7, 5, 2))) for x, y in shape]))
                self.assertEqual(polygons.moved(kind, there, ((-1, 2, 3), (-7, -5, 2))), shape)
                self.assertEqual(polygons.area(kind, there), polygons.area(kind, shape))


class Within(unittest.TestCase):
    """is_in, by the last two sentences of [5]."""

    def told(self, kind, shape, point, right):
        self.assertIs(polygons.is_in(kind, shape, point), right, (kind, shape, point))

    def test_grid(self):
        for kind in KINDS:
            for shape in SHAPES:
                for point in grid()[::2]:
                    self.told(kind, shape, point, ref.inside(kind, shape, point))
                    self.assertIs(polygons.is_in(point=point, polygon=shape, kind=kind),
                                  ref.inside(kind, shape, point))

    def test_corners_and_points_on_edges(self):
        for kind in KINDS:
            for shape in SHAPES:
                for one, other in ref.edges(shape):
                    for share in ((0, 0, 1), (1, 0, 2), (1, 0, 3), (2, -1, 1)):
                        point = on_edge(kind, one, other, share)
                        self.told(kind, shape, point, ref.inside(kind, shape, point))

    def test_square(self):
        for kind in KINDS:
            self.assertEqual([polygons.is_in(kind, SQUARE, corner) for corner in SQUARE], [True, False, False, False])
            for share in ((1, 0, 2), (0, 1, 3), (2, -1, 1)):
                self.told(kind, SQUARE, ((0, 0, 1), share), True)
                self.told(kind, SQUARE, (share, (0, 0, 1)), True)
                self.told(kind, SQUARE, ((1, 0, 1), share), False)
                self.told(kind, SQUARE, (share, (1, 0, 1)), False)
                self.told(kind, SQUARE, (share, share), True)
                self.told(kind, SQUARE, ((-1, 0, 2), share), False)
                self.told(kind, SQUARE, (share, (3, 0, 2)), False)

    def test_each_corner_of_six(self):
        for kind in KINDS:
            self.assertEqual([polygons.is_in(kind, SIX, corner) for corner in SIX],
                             [True, True, False, False, False, False])
            self.assertEqual([polygons.is_in(kind, DIAMOND, corner) for corner in DIAMOND], [True, False, False, False])

    def test_beside_the_ends_of_edges(self):
        for kind in KINDS:
            for point in (at(-1, 0), at(2, 0), at(0, -1), at(0, 2), at(1, 2), at(2, 1), at(-1, 1), at(1, -1)):
                self.told(kind, SQUARE, point, False)

    def test_very_near(self):
        for kind in KINDS:
            tiny = ref.power(kind, TINY[kind], 800)
            back = scaled(tiny, -1)
            half = (1, 0, 2)
            for edge, inward, on in ((((0, 0, 1), half), (tiny, (0, 0, 1)), True),
                                     (((1, 0, 1), half), (back, (0, 0, 1)), False),
                                     ((half, (0, 0, 1)), ((0, 0, 1), tiny), True),
                                     ((half, (1, 0, 1)), ((0, 0, 1), back), False)):
                inner = (plus(edge[0], inward[0]), plus(edge[1], inward[1]))
                outer = (minus(edge[0], inward[0]), minus(edge[1], inward[1]))
                self.assertEqual([polygons.is_in(kind, SQUARE, point) for point in (inner, edge, outer)],
                                 [True, on, False])
            for shape in (DIAMOND, ODD, THIN):
                for one, other in ref.edges(shape):
                    middle = on_edge(kind, one, other, half)
                    for point in ((plus(middle[0], tiny), middle[1]), (plus(middle[0], back), middle[1]),
                                  (middle[0], plus(middle[1], tiny)), (middle[0], plus(middle[1], back))):
                        self.told(kind, shape, point, ref.inside(kind, shape, point, 1000))

    def test_near_a_corner(self):
        for kind in KINDS:
            tiny = ref.power(kind, TINY[kind], 300)
            for shape in (SQUARE, DIAMOND, SIX):
                for x, y in shape:
                    for step in (tiny, scaled(tiny, -1)):
                        for point in ((plus(x, step), y), (x, plus(y, step)), (plus(x, step), plus(y, step))):
                            self.told(kind, shape, point, ref.inside(kind, shape, point, 500))


def on_edge(kind, one, other, share):
    """The point that lies by a share of the way from one point to another one."""
    found = []
    for here, there in zip(one, other):
        here, there, part = [ref.rooted(kind, p) for p in (here, there, share)]
        found.append(ref.unrooted(kind, ref.added(here, ref.multiplied(kind, part, ref.taken_off(there, here)))))
    return found[0], found[1]


if __name__ == "__main__":
    unittest.main()
