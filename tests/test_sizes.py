"""Integers of any size: right, and quick."""

import unittest
from time import perf_counter

from quasifloors import fields, polygons
from tests import reference as ref
from tests.reference import KINDS
from tests.samples import SQUARE, at

# No two corners are the least ones, however little they are moved.
ROUND = (at(-5, 0), at(-4, -3), at(-2, -5), at(1, -6), at(3, -5), at(5, -2), at(6, 1), at(5, 3), at(3, 5), at(0, 6),
         at(-2, 5), at(-4, 3))
# Far more than a call takes, so that a slow machine does not matter; far less than a poor way would take.
SECONDS = 5


def drawn_number(kind, near, digits, start):
    """A number very near to an integer by 8, whose own integers have so many digits."""
    b, n = ref.some_numbers(2, 10 ** digits, start)
    n = abs(n) + 10 ** (digits - 1)
    a = near * n // 8 - ref.floor_of(kind, ref.rooted(kind, (0, b, 1)))
    return fields.number(a, b, n)


def drawn_polygon(kind, digits, start, shift):
    """Twelve corners very near to those of ROUND, moved by some eighths."""
    return tuple([(drawn_number(kind, 8 * x[0] + shift, digits, start + 2 * k),
                   drawn_number(kind, 8 * y[0] + shift, digits, start + 2 * k + 1))
                  for k, (x, y) in enumerate(ROUND)])


class Sizes(unittest.TestCase):
    def quick(self, action, *told):
        start = perf_counter()
        found = action(*told)
        self.assertLess(perf_counter() - start, SECONDS, action.__name__)
        return found

    def test_fields(self):
        for kind in KINDS:
            for digits in (60, 300, 900):
                p, q = [drawn_number(kind, near, digits, 7) for near in (3, -5)]
                one, other = ref.rooted(kind, p), ref.rooted(kind, q)
                self.assertEqual(self.quick(fields.is_number, p), True)
                self.assertEqual(self.quick(fields.plus, p, q), ref.unrooted(kind, ref.added(one, other)))
                self.assertEqual(self.quick(fields.minus, p, q), ref.unrooted(kind, ref.taken_off(one, other)))
                self.assertEqual(self.quick(fields.times, kind, p, q),
                                 ref.unrooted(kind, ref.multiplied(kind, one, other)))
                self.assertEqual(self.quick(fields.by, kind, p, q), ref.unrooted(kind, ref.divided(kind, one, other)))
                self.assertEqual([self.quick(fields.sign, kind, told) for told in (p, q)], [1, -1])
                self.assertEqual([self.quick(fields.floor_of, kind, told) for told in (p, q)], [0, -1])
                self.assertEqual([self.quick(fields.compared, kind, p, told) for told in (p, q)], [0, 1])
                self.assertEqual([self.quick(fields.about, kind, told, 3) // 25 for told in (p, q)],
                                 [ref.floor_of(kind, (told[0] * 40, told[1] * 40)) for told in (one, other)])

    def test_one_polygon(self):
        for kind in KINDS:
            for digits in (60, 250):
                shape = drawn_polygon(kind, digits, 11, 1)
                self.assertTrue(ref.is_right(kind, shape))
                self.assertEqual(self.quick(polygons.is_polygon, kind, shape), True)
                self.assertEqual(self.quick(polygons.is_polygon, kind, shape[1:] + shape[:1]), False)
                self.assertEqual(self.quick(polygons.polygon, kind, shape[::-1]), shape)
                self.assertEqual(self.quick(polygons.area, kind, shape), ref.area(kind, shape))
                self.assertEqual(self.quick(polygons.is_in, kind, shape, at(1, 1)), True)
                self.assertEqual(self.quick(polygons.is_in, kind, shape, shape[2]),
                                 ref.inside(kind, shape, shape[2], 1000))
                there = self.quick(polygons.moved, kind, shape, shape[4])
                self.assertEqual(polygons.area(kind, there), polygons.area(kind, shape))

    def test_two_polygons(self):
        for kind in KINDS:
            for digits in (60, 250):
                one, other = drawn_polygon(kind, digits, 101, 1), drawn_polygon(kind, digits, 201, 6)
                both = self.quick(polygons.met, kind, one, other)
                rest = self.quick(polygons.less, kind, one, other)
                halves = self.quick(polygons.cut, kind, one, other[0], other[5])
                for parts in ((both, *rest), halves):
                    for part in parts:
                        self.assertTrue(self.quick(polygons.is_polygon, kind, part))
                    self.assertEqual(self.quick(polygons.sum_of, kind, parts), polygons.area(kind, one))
                    for point in (at(0, 0), at(-3, 0), at(2, 3), at(-2, -3)):
                        self.assertEqual(len([part for part in parts if polygons.is_in(kind, part, point)]),
                                         polygons.is_in(kind, one, point))

    def test_far_away_and_great(self):
        for kind in KINDS:
            far = (10 ** 400 + 1, 7 ** 300, 3 ** 500)
            there = polygons.moved(kind, SQUARE, (far, far))
            self.assertEqual(polygons.area(kind, there), (1, 0, 1))
            self.assertEqual([polygons.is_in(kind, there, corner) for corner in there], [True, False, False, False])
            self.assertEqual(polygons.met(kind, there, there), there)
            self.assertEqual(polygons.less(kind, there, there), ())
            self.assertIsNone(polygons.met(kind, there, SQUARE))
            left, right = polygons.cut(kind, there, there[0], there[2])
            self.assertEqual((left, right), ((there[0], there[2], there[3]), there[:3]))
            great = tuple([(fields.times(kind, x, far), fields.times(kind, y, far)) for x, y in ROUND])
            self.assertEqual(polygons.area(kind, great),
                             fields.times(kind, fields.times(kind, far, far), polygons.area(kind, ROUND)))


if __name__ == "__main__":
    unittest.main()
