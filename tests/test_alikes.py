"""alikes.py, where nothing is wrong."""

import unittest
from itertools import combinations, product

from quasifloors import alikes, fields, floors, patches, polygons
from tests import plain
from tests.plain import HERE
from tests.reference import KINDS
from tests.samples import AWAY, DOWN, FIVE, HALVES, INNER, ODD, SQUARE, THREE, TWO, at, shifted
from tests.samples import floors as samples

POINTS = [at(0, 0), ((1, -1, 1), (0, 0, 1)), ((1, 2, 3), (-5, 1, 7)), at(300, -999), ((0, 0, 1), (1, 0, 12))]


def moved(floor, point):
    return (floor[0], polygons.moved(floor[0], floor[1], point))


class Same(unittest.TestCase):
    def test_is_one(self):
        for kind in KINDS:
            told = samples(kind)
            for one, other in product(told, told):
                self.assertIs(alikes.is_one(one, other), one[1] == other[1])
            for floor, point in product(told, POINTS):
                self.assertIs(alikes.is_one(floor, moved(floor, point)), point == at(0, 0))
        self.assertIs(alikes.is_one(other=(2, SQUARE), one=(2, tuple(list(SQUARE)))), True)

    def test_another_window_has_other_places(self):
        for kind in KINDS:
            box = ((-20, 0, 1), (-20, 0, 1), (20, 0, 1), (20, 0, 1))
            for one, other in combinations([(kind, window) for window in (SQUARE, TWO, INNER, THREE)], 2):
                self.assertNotEqual(floors.places(one, box), floors.places(other, box))

    def test_alike(self):
        for kind in KINDS:
            told = samples(kind)
            for floor, point in product(told, POINTS):
                self.assertEqual(alikes.alike(floor, moved(floor, point)), point)
                self.assertEqual(alikes.alike(moved(floor, point), floor), plain.opposite(point))
            for one, other in product(told, told):
                found = alikes.alike(one, other)
                same = one == other or {one[1], other[1]} in ({FIVE, AWAY}, {TWO, INNER})
                self.assertEqual(found is not None, same)
            for place in (HERE, ((1, 1), (0, 0)), ((-2, 3), (7, -1))):
                there = floors.moved_floor((kind, ODD), place)
                self.assertEqual(alikes.alike((kind, ODD), there), plain.mate_point(kind, place))
        self.assertEqual(alikes.alike(other=(2, shifted(TWO, 1, 2)), one=(2, TWO)), at(1, 2))

    def test_nearly_alike(self):
        for kind in KINDS:
            little = (1, 0, 10 ** 40)
            for k in range(4):
                corners = list(TWO)
                x, y = corners[k]
                corners[k] = (fields.plus(x, little), fields.plus(y, little))
                window = polygons.polygon(kind, corners)
                self.assertIsNone(alikes.alike((kind, TWO), (kind, window)))
                self.assertIs(alikes.is_one((kind, window), (kind, TWO)), False)
            # Of another number of corners, the first ones the same.
            for window in ((at(0, 0), at(2, 0), at(2, 2)), (at(0, 0), at(2, 0), at(2, 2), at(1, 3), at(0, 2))):
                self.assertIsNone(alikes.alike((kind, TWO), (kind, window)))
                self.assertIsNone(alikes.alike((kind, window), (kind, TWO)))


class Unlike(unittest.TestCase):
    def expected(self, one, other, most):
        for r in range(most + 1):
            ones, others = [{patch for patch, _ in patches.patches(floor, r)} for floor in (one, other)]
            if ones != others:
                return r, min(ones ^ others)
        return None

    def test_first_unlike(self):
        seen = []
        for kind in KINDS:
            told = samples(kind)[:7]
            for one, other in product(told, told):
                for most in (0, 1):
                    found = alikes.first_unlike(one, other, most)
                    self.assertEqual(found, self.expected(one, other, most))
                    self.assertEqual(found, alikes.first_unlike(other, one, most))
                    seen.append(found)
                    if found is not None:
                        self.assertIs(type(found), tuple)
                        comes = [patches.comes(floor, *found) for floor in (one, other)]
                        self.assertEqual(sorted(comes), [False, True])
        self.assertGreater(len(set(seen)), 7)
        self.assertEqual(alikes.first_unlike(most=1, other=(2, TWO), one=(2, SQUARE)), (1, ()))

    def test_the_same_patches_though_not_alike(self):
        for kind in (2, 3):
            slim = ((at(0, 0), ((1, 0, 1), (0, 0, 1)), ((1, 0, 1), (3, 0, 4)), ((0, 0, 1), (3, 0, 4))))
            one, other = (kind, SQUARE), (kind, slim)
            self.assertIsNone(alikes.alike(one, other))
            self.assertIsNone(alikes.first_unlike(one, other, 1))
            self.assertEqual(alikes.apart(one, other, 1), (0, 0, 1))
            # But to a greater radius they have not.
            r = self.expected(one, other, 5)[0]
            self.assertEqual(alikes.first_unlike(one, other, 5), self.expected(one, other, 5))
            self.assertGreater(r, 1)
            self.assertIsNone(alikes.first_unlike(one, other, r - 1))
            self.assertEqual(alikes.first_unlike(one, other, r)[0], r)

    def test_the_same_patches_with_other_shares(self):
        for kind in KINDS:
            wide = tuple([(fields.times(kind, x, (11, 0, 10)), y) for x, y in TWO])
            one, other = (kind, TWO), (kind, wide)
            if self.expected(one, other, 1) is None:
                self.assertIsNone(alikes.first_unlike(one, other, 1))
                self.assertNotEqual(alikes.apart(one, other, 1), (0, 0, 1))

    def test_alike_ones(self):
        for kind in KINDS:
            for floor, point in product(samples(kind), POINTS):
                there = moved(floor, point)
                for r in (0, 1):
                    self.assertIsNone(alikes.first_unlike(floor, there, r))
                self.assertIsNone(alikes.first_unlike(floor, there, 40))


class Apart(unittest.TestCase):
    def expected(self, one, other, r):
        kind = one[0]
        ones, others = [dict(patches.patches(floor, r)) for floor in (one, other)]
        found = (0, 0, 1)
        for patch in set(ones) | set(others):
            gap = fields.minus(ones.get(patch, (0, 0, 1)), others.get(patch, (0, 0, 1)))
            found = fields.plus(found, fields.scaled(gap, fields.sign(kind, gap)))
        return fields.by(kind, found, (2, 0, 1))

    def test_all(self):
        for kind in KINDS:
            told = [(kind, window) for window in (SQUARE, TWO, THREE, DOWN, INNER, HALVES, FIVE, ODD)]
            for one, other in product(told, told):
                self.assertEqual(alikes.apart(one, other, 0), (0, 0, 1))
                found = alikes.apart(one, other, 1)
                self.assertEqual(found, self.expected(one, other, 1))
                self.assertEqual(found, alikes.apart(other, one, 1))
                self.assertIn(fields.compared(kind, found, (1, 0, 1)), (-1, 0))
                self.assertIn(fields.sign(kind, found), (0, 1))
                if one == other:
                    self.assertEqual(found, (0, 0, 1))
        self.assertEqual(alikes.apart(r=1, other=(2, TWO), one=(2, SQUARE)), (1, 0, 1))

    def test_alike_floors(self):
        for kind in KINDS:
            for floor, point in product(samples(kind), POINTS[1:]):
                self.assertEqual(alikes.apart(floor, moved(floor, point), 1), (0, 0, 1))

    def test_a_wider_window(self):
        # Of the first numbers' two halves each loses a 22th, to places with one on either side.
        for kind in (2, 3):
            wide = (at(0, 0), ((11, 0, 5), (0, 0, 1)), ((11, 0, 5), (2, 0, 1)), at(0, 2))
            self.assertEqual(alikes.apart((kind, TWO), (kind, wide), 1), (1, 0, 11))


if __name__ == "__main__":
    unittest.main()
