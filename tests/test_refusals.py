"""The errors that fields.py and polygons.py raise: which ones, with which value, in which sequence."""

import unittest
from itertools import product

from quasifloors import fields, polygons
from tests.refusing import INTEGERS_WRONG, KINDS_WRONG, NUMBERS_WRONG, POINTS_WRONG, POLYGONS_WRONG, Refusing
from tests.samples import INNER, SQUARE, THREE, at

KIND = ("kind", (5,), "InvalidKind", KINDS_WRONG)
P = ("p", ((1, 2, 3),), "InvalidNumber", NUMBERS_WRONG)
Q = ("q", ((-1, 1, 2),), "InvalidNumber", NUMBERS_WRONG)
POLYGON = ("polygon", (INNER,), "InvalidPolygon", POLYGONS_WRONG)
POINT = ("point", (at(3, 4),), "InvalidPoint", POINTS_WRONG)
ONE = ("one", (SQUARE,), "InvalidPolygon", POLYGONS_WRONG)
OTHER = ("other", (THREE,), "InvalidPolygon", POLYGONS_WRONG)

# Of each parameter its name, the right values, and the error for the wrong ones.
FIELDS = [
    (fields.is_number, [("told", ((1, 0, 1), None, 3), None, [])]),
    (fields.number, [("a", (4,), "InvalidNumber", INTEGERS_WRONG), ("b", (0,), "InvalidNumber", INTEGERS_WRONG),
                     ("n", (-2, 7), "InvalidNumber", INTEGERS_WRONG)]),
    (fields.plus, [P, Q]),
    (fields.minus, [P, Q]),
    (fields.scaled, [P, ("k", (0, -3), "InvalidNumber", INTEGERS_WRONG)]),
    (fields.times, [KIND, P, Q]),
    (fields.by, [KIND, P, Q]),
    (fields.mate, [KIND, P]),
    (fields.norm, [KIND, P]),
    (fields.sign, [KIND, P]),
    (fields.compared, [KIND, P, Q]),
    (fields.floor_of, [KIND, P]),
    (fields.about, [KIND, P, ("n", (0, 60), "InvalidNumber", INTEGERS_WRONG + [-1, -60])]),
    (fields.unit, [KIND]),
    (fields.stretch_unit, [KIND]),
]
POLYGONS = [
    (polygons.is_polygon, [KIND, ("told", (SQUARE, None, 3), None, [])]),
    (polygons.area, [KIND, POLYGON]),
    (polygons.is_in, [KIND, POLYGON, POINT]),
    (polygons.moved, [KIND, POLYGON, POINT]),
    (polygons.cut, [KIND, POLYGON, ("one", (at(0, 0),), "InvalidPoint", POINTS_WRONG),
                    ("other", (at(1, 2),), "InvalidPoint", POINTS_WRONG)]),
    (polygons.met, [KIND, ONE, OTHER]),
    (polygons.less, [KIND, ONE, OTHER]),
]
FIELDS_SEQUENCE = ["InvalidKind", "InvalidNumber", "DividedByZero"]
POLYGONS_SEQUENCE = ["InvalidKind", "InvalidPolygon", "InvalidPoint", "InvalidPair"]


class Refusals(Refusing):
    def test_fields(self):
        self.run_all(FIELDS, FIELDS_SEQUENCE)

    def test_polygons(self):
        self.run_all(POLYGONS, POLYGONS_SEQUENCE)

    def test_divided_by_zero(self):
        for a, b in [(1, 0), (0, 0), (-4, 6), (10 ** 300, -1)]:
            self.both_ways("DividedByZero", (a, b), fields.number, "abn", (a, b, 0))
        for kind, p in product((2, 3, 5), [(1, 0, 1), (0, 0, 1), (-4, 6, 7)]):
            self.both_ways("DividedByZero", p, fields.by, ("kind", "p", "q"), (kind, p, (0, 0, 1)))
        self.refused("InvalidNumber", True, fields.number, True, 1, 0)
        self.refused("InvalidNumber", None, fields.number, 0, None, 0)
        self.refused("InvalidNumber", False, fields.number, 0, 0, False)
        self.refused("InvalidKind", 4, fields.by, 4, (1, 0, 1), (0, 0, 1))
        self.refused("InvalidNumber", (2, 2, 2), fields.by, 2, (2, 2, 2), (0, 0, 1))
        self.refused("InvalidNumber", (0, 0, 2), fields.by, 2, (1, 0, 1), (0, 0, 2))

    def test_list_of_points(self):
        good = list(SQUARE)
        for kind in KINDS_WRONG:
            for points in (good, [], tuple(good), [None], good[:2]):
                self.both_ways("InvalidKind", kind, polygons.polygon, ("kind", "points"), (kind, points))
        for k, wrong in product(range(5), POINTS_WRONG):
            points = good[:k] + [wrong] + good[k:] + [None, wrong]
            for told in (points, tuple(points), good[:1] + [wrong], [wrong], [wrong, None], (wrong, 7)):
                self.both_ways("InvalidPoint", wrong, polygons.polygon, ("kind", "points"), (3, told))

    def test_points_in_one_line(self):
        w = (0, 1, 1)
        for points in ([], [at(0, 0)], [at(0, 0), at(1, 0)], [at(0, 0)] * 5, [at(0, 0), at(2, 2), at(1, 1)],
                       [at(3, 1), at(3, 0), at(3, 7), at(3, 0)], [at(3, 1), at(0, 1), at(-9, 1)],
                       [at(0, 0), (w, w), ((1, 1, 2), (1, 1, 2)), at(1, 1), at(0, 0)],
                       [at(0, 1), (w, (1, 2, 1)), at(-1, -1)]):
            for kind in (2, 3, 5):
                self.both_ways("InvalidPair", points, polygons.polygon, ("kind", "points"), (kind, points))
                self.both_ways("InvalidPair", tuple(points), polygons.polygon, ("kind", "points"),
                               (kind, tuple(points)))
                polygons.polygon(kind, points + [at(0, 0), at(0, 50), at(1, 77)])

    def test_the_same_point_twice(self):
        names = ("kind", "polygon", "one", "other")
        for kind, point in product((2, 3, 5), (at(0, 0), at(7, 7), ((0, 1, 2), (1, -1, 3)))):
            self.both_ways("InvalidPair", (point, point), polygons.cut, names, (kind, SQUARE, point, point))
            self.refused("InvalidPolygon", SQUARE[:2], polygons.cut, kind, SQUARE[:2], point, point)
            self.refused("InvalidKind", 7, polygons.cut, 7, SQUARE, point, point)
        self.refused("InvalidPoint", (), polygons.cut, 2, SQUARE, (), ())

    def test_list_of_polygons(self):
        names = ("kind", "polygons")
        for kind in KINDS_WRONG:
            for told in ([], [SQUARE], [None], (SQUARE[:2],)):
                self.both_ways("InvalidKind", kind, polygons.sum_of, names, (kind, told))
        for wrong in POLYGONS_WRONG:
            for told in ([wrong], (SQUARE, wrong), [THREE, INNER, wrong, None, wrong], (wrong, 7)):
                self.both_ways("InvalidPolygon", wrong, polygons.sum_of, names, (5, told))

    def test_polygons_of_another_kind(self):
        # Right for 2 alone, where w is less than 8 by 5.
        told = (at(0, 0), ((0, 1, 1), (0, 0, 1)), ((8, 0, 5), (1, 0, 100)), at(1, 1))
        polygons.area(2, told)
        for kind in (3, 5):
            self.both_ways("InvalidPolygon", told, polygons.area, ("kind", "polygon"), (kind, told))
            self.both_ways("InvalidPolygon", told, polygons.met, ("kind", "one", "other"), (kind, SQUARE, told))


if __name__ == "__main__":
    unittest.main()
