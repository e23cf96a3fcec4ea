"""stretches.py, where nothing is wrong."""

import unittest
from itertools import product

from quasifloors import floors, patches, polygons, stretches
from tests import plain, stretching
from tests import reference as ref
from tests.reference import KINDS
from tests.samples import BIG, DIAMOND, FIVE, HALVES, INNER, ODD, SHARP, SQUARE, THREE, TWO, at, shifted
from tests.samples import floors as samples

SMALL = (SQUARE, THREE, INNER, HALVES, FIVE, ODD)


class Matrices(unittest.TestCase):
    def test_is_matrix(self):
        for kind in KINDS:
            for matrix in stretching.matrices(kind):
                self.assertIs(stretches.is_matrix(kind, matrix), True)
                self.assertIs(stretches.is_matrix(told=matrix, kind=kind), True)

    def test_no_matrix(self):
        one, none = (1, 0), (0, 0)
        for kind in KINDS:
            # Norms of 2, 4, 0, mates below 0, something at the left of the last row.
            wrong = {2: [(1, 1), (-1, 1), (-3, 2)], 3: [(1, 1), (-2, 1), (-7, 4)], 5: [(0, 1), (-1, -1), (-2, 1)]}[kind]
            for p in wrong + [(2, 0), (-1, 0), none, (0, 2), (True, 0), (1, False), (1,), (1, 0, 1), [1, 0], 1, None]:
                self.assertIs(stretches.is_matrix(kind, ((p, none), (none, one))), False, p)
                self.assertIs(stretches.is_matrix(kind, ((one, none), (none, p))), False, p)
            for q in [(True, 0), (1,), (1, 0, 1), [1, 0], 1, None]:
                self.assertIs(stretches.is_matrix(kind, ((one, q), (none, one))), False, q)
            for q in [(1, 0), (0, -1), (False, 0), (0, False), (0,), (0, 0, 1), [0, 0], 0, None]:
                self.assertIs(stretches.is_matrix(kind, ((one, none), (q, one))), False, q)
            good = (one, none)
            for told in [(), (good,), (good, (none, one), good), [good, (none, one)], (list(good), (none, one)), None,
                         (good, [none, one]), (good, (none, one, one)), (good, (one,)), 3, "matrix", good, (1, 0)]:
                self.assertIs(stretches.is_matrix(kind, told), False, told)
        # Right for one kind alone.
        self.assertEqual([stretches.is_matrix(kind, (((3, 2), none), (none, one))) for kind in KINDS],
                         [True, False, False])
        self.assertEqual([stretches.is_matrix(kind, ((one, none), (none, (2, 1)))) for kind in KINDS],
                         [False, True, False])

    def test_is_unit(self):
        for kind in KINDS:
            for unit in stretching.UNITS[kind]:
                self.assertIs(stretches.is_unit(kind, unit), True)
                self.assertIs(stretches.is_unit(told=unit, kind=kind), True)
            # Of norm -1 or below 0, or with a mate below 0.
            wrong = {2: [(1, 1), (1, -1), (-1, 1), (-3, 2), (-3, -2), (-1, -1)], 3: [(-2, -1), (-2, 1), (1, 1)],
                     5: [(0, 1), (0, -1), (1, -1), (-1, 1), (-1, -1), (-2, 1)]}[kind]
            for told in wrong + [(-1, 0), (0, 0), (2, 0), (4, 2), (1,), (1, 0, 1), (), [1, 0], 1, None, "10", (1, None),
                                 (True, 0), (1, False), (1.0, 0), ((1, 0), (0, 0))]:
                self.assertIs(stretches.is_unit(kind, told), False, (kind, told))
        for kind, pair in product(KINDS, product(range(-20, 21), repeat=2)):
            whole = ref.rooted(kind, pair + (1,))
            mate = ref.rooted(kind, plain.mate(kind, pair))
            expected = abs(ref.multiplied(kind, whole, mate)[0]) == 1 and ref.sign_of(kind, whole) == 1
            self.assertIs(stretches.is_unit(kind, pair), expected and ref.sign_of(kind, mate) == 1, (kind, pair))

    def test_taken(self):
        for kind in KINDS:
            for matrix in stretching.matrices(kind):
                for place in (plain.HERE, ((1, 0), (0, 1)), ((-3, 5), (2, -7)), ((999, -999), (-998, 999))):
                    expected = stretching.taken(kind, matrix, place)
                    self.assertEqual(stretches.taken(kind, matrix, place), expected)
                    self.assertEqual(stretches.taken(place=place, matrix=matrix, kind=kind), expected)
                    self.assertEqual(stretches.taken(kind, stretches.undone(kind, matrix), expected), place)

    def test_undone_and_behind(self):
        for kind in KINDS:
            nothing = stretching.scaled_matrix((1, 0))
            told = stretching.matrices(kind)
            self.assertEqual(stretches.undone(kind, nothing), nothing)
            for matrix in told:
                back = stretches.undone(matrix=matrix, kind=kind)
                self.assertIs(stretches.is_matrix(kind, back), True)
                for one, other in ((matrix, back), (back, matrix)):
                    self.assertEqual(stretches.behind(kind, one, other), nothing)
                    self.assertEqual(stretching.product(kind, one, other), nothing)
                self.assertEqual(stretches.behind(kind, matrix, nothing), matrix)
                self.assertEqual(stretches.behind(kind, nothing, matrix), matrix)
            for one, other in product(told[::2], told[::3]):
                both = stretches.behind(other=other, one=one, kind=kind)
                self.assertEqual(both, stretching.product(kind, one, other))
                place = ((2, -3), (1, 4))
                self.assertEqual(stretches.taken(kind, both, place),
                                 stretches.taken(kind, one, stretches.taken(kind, other, place)))


class Taken(unittest.TestCase):
    def compare(self, floor, matrix, there):
        """Show that just the places of the floor, taken, are those of another one, those beside windows too."""
        kind, window = floor
        self.assertTrue(ref.is_right(kind, there[1]))
        self.assertEqual(there[0], kind)
        self.assertEqual(sorted(there[1]), sorted([stretching.taken_point(kind, matrix, x) for x in window]))
        numbers = []
        for k in (0, 1):
            low, high = plain.ends(kind, [corner[k] for corner in window])
            least, most = (low[0] - low[2], low[1], low[2]), (high[0] + high[2], high[1], high[2])
            numbers.append(plain.wholes(kind, (-2, 0, 1), (2, 0, 1), least, most))
        seen = 0
        for place in product(*numbers):
            expected = plain.has(floor, place)
            seen += expected
            self.assertIs(plain.has(there, stretching.taken(kind, matrix, place)), expected, (floor, matrix, place))
        return seen

    def test_taken_floor(self):
        for kind in KINDS:
            for k, matrix in enumerate(stretching.matrices(kind)):
                for window in SMALL[k % 2::2]:
                    floor = (kind, window)
                    there = stretches.taken_floor(floor, matrix)
                    self.assertGreater(self.compare(floor, matrix, there), 0)
                    self.assertEqual(stretches.taken_floor(matrix=matrix, floor=floor), there)
                    self.assertEqual(stretches.taken_floor(there, stretches.undone(kind, matrix)), floor)

    def test_taken_one_behind_the_other(self):
        for kind in KINDS:
            told = stretching.matrices(kind)
            for one, other in zip(told, told[2:] + told[:2]):
                floor = (kind, FIVE)
                self.assertEqual(stretches.taken_floor(stretches.taken_floor(floor, other), one),
                                 stretches.taken_floor(floor, stretches.behind(kind, one, other)))

    def test_windows_begin_with_another_corner(self):
        turned = 0
        for kind in KINDS:
            for matrix in stretching.matrices(kind):
                there = stretches.taken_floor((kind, INNER), matrix)
                first = stretching.taken_point(kind, matrix, INNER[0])
                turned += there[1][0] != first
                self.assertTrue(floors.is_floor(there))
        self.assertGreater(turned, 10)
        # The mate of the shear's last number takes the square's upper left corner before the lower left one.
        shear = (((1, 0), (-2, 0)), ((0, 0), (1, 0)))
        for kind in KINDS:
            self.assertEqual(stretches.taken_floor((kind, SQUARE), shear)[1],
                             (at(-2, 1), at(0, 0), at(1, 0), at(-1, 1)))

    def test_places_on_rims(self):
        # A shear that goes down leaves (1, 1) where it is, on the rim: it belongs to neither floor.
        for kind in KINDS:
            for q in ((1, 0), (-1, 0), (0, 1), (2, -1)):
                matrix = (((1, 0), q), ((0, 0), (1, 0)))
                for window in (SQUARE, DIAMOND, TWO, BIG):
                    there = stretches.taken_floor((kind, window), matrix)
                    for place in product(((-2, 0), (-1, 0), (0, 0), (1, 0), (2, 0), (3, 0)), repeat=2):
                        self.assertIs(floors.has(there, stretches.taken(kind, matrix, place)),
                                      floors.has((kind, window), place))

    def test_stretched(self):
        for kind in KINDS:
            for floor in samples(kind):
                for unit in stretching.UNITS[kind]:
                    there = stretches.stretched(floor, unit)
                    self.assertEqual(there, (kind, stretching.shrunk(kind, unit, floor[1])))
                    self.assertEqual(there, stretches.taken_floor(floor, stretching.scaled_matrix(unit)))
                    self.assertEqual(stretches.stretched(unit=unit, floor=floor), there)
                    back = plain.mate(kind, unit)[:2]
                    self.assertEqual(stretches.stretched(there, back), floor)
            self.compare((kind, FIVE), stretching.scaled_matrix(stretching.GROWING[kind]),
                         stretches.stretched((kind, FIVE), stretching.GROWING[kind]))


class Within(unittest.TestCase):
    def test_lies_within(self):
        for kind in KINDS:
            told = samples(kind) + [(kind, BIG), (kind, DIAMOND)]
            seen = []
            for one, other in product(told, told):
                rest = polygons.less(kind, one[1], other[1])
                within = stretches.lies_within(one, other)
                seen.append(within)
                self.assertIs(within, rest == (), (one, other))
                self.assertIs(stretches.lies_within(other=other, one=one), within)
                if rest:
                    place = patches.found((kind, rest[0]), 0, ())
                    self.assertTrue(plain.has(one, place) and not plain.has(other, place))
                else:
                    box = plain.box_about(plain.HERE, 4)
                    self.assertLessEqual(set(plain.places(one, box)), set(plain.places(other, box)))
            self.assertGreater(seen.count(True), len(told))
            self.assertGreater(seen.count(False), len(told))

    def test_just_within(self):
        a_little = (1, 0, 999)
        for kind in KINDS:
            for window in (SQUARE, DIAMOND, FIVE, SHARP):
                floor = (kind, window)
                self.assertIs(stretches.lies_within(floor, floor), True)
                for x, y in product((-1, 0, 1), repeat=2):
                    point = ((x, 0, 999) if x else (0, 0, 1), (y, 0, 999) if y else (0, 0, 1))
                    moved = (kind, polygons.moved(kind, window, point))
                    self.assertIs(stretches.lies_within(moved, floor), (x, y) == (0, 0))
                    self.assertIs(stretches.lies_within(floor, moved), (x, y) == (0, 0))
            corner = (kind, (at(0, 0), at(1, 0), (a_little, a_little)))
            self.assertIs(stretches.lies_within(corner, (kind, SQUARE)), True)
            self.assertIs(stretches.lies_within((kind, SQUARE), corner), False)

    def least(self, one, other, most):
        kind = one[0]
        window = one[1]
        for n in range(most + 1):
            if polygons.less(kind, window, other[1]) == ():
                return n
            window = stretching.shrunk(kind, stretching.GROWING[kind], window)
        return None

    def test_least_power(self):
        for kind in KINDS:
            told = samples(kind)
            seen = set()
            for one, other in product(told, told):
                for most in (0, 1, 8):
                    expected = self.least(one, other, most)
                    seen.add(expected)
                    self.assertEqual(stretches.least_power(one, other, most), expected)
                self.assertEqual(stretches.least_power(most=3, other=other, one=one), self.least(one, other, 3))
            self.assertLessEqual({None, 0, 1, 2}, seen)

    def test_powers_to_the_most(self):
        for kind in KINDS:
            unit = stretching.GROWING[kind]
            small = (kind, INNER)
            for n in range(9):
                one = (kind, BIG)
                self.assertEqual(stretches.least_power((kind, INNER), small, 8), n)
                self.assertEqual(stretches.least_power((kind, INNER), small, n), n)
                if n > 0:
                    self.assertIsNone(stretches.least_power((kind, INNER), small, n - 1))
                # 3 times as large, so twice more in the kind 5, where the unit is 2.6, else once.
                self.assertEqual(stretches.least_power(one, small, 12), n + (2 if kind == 5 else 1))
                small = stretches.stretched(small, unit)

    def test_far_away_never(self):
        for kind in KINDS:
            away = (kind, shifted(SQUARE, 7, 7))
            self.assertIsNone(stretches.least_power((kind, INNER), away, 8))
            # Behind (0, 0) at its corner all is drawn into the square, but nothing from its other side.
            self.assertEqual(stretches.least_power((kind, TWO), (kind, SQUARE), 8), 1)
            self.assertIsNone(stretches.least_power((kind, INNER), (kind, SQUARE), 8))


if __name__ == "__main__":
    unittest.main()
