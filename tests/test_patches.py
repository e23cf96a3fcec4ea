"""patches.py, where nothing is wrong."""

import unittest
from itertools import combinations, product

from quasifloors import fields, floors, patches, polygons
from tests import plain
from tests import reference as ref
from tests.plain import HERE
from tests.reference import KINDS, TINY
from tests.samples import FIVE, HALVES, SHARP, SQUARE, TWO, at, shifted
from tests.samples import floors as samples


def sum_of_shares(told):
    found = (0, 0, 1)
    for _, share in told:
        found = fields.plus(found, share)
    return found


class Near(unittest.TestCase):
    def test_all(self):
        for kind in KINDS:
            for floor, r in product(samples(kind), (0, 1, 2)):
                found = patches.near(floor, r)
                self.assertIs(type(found), list)
                self.assertEqual(found, plain.near(floor, r))
                # With a place also the opposite one.
                self.assertEqual(sorted(floors.turned_about(step) for step in found), found)
        self.assertEqual(patches.near(r=2, floor=(2, SQUARE)), [])

    def test_windows_that_touch(self):
        # The window and the one that is moved have an edge or a corner in common: no area.
        for kind in KINDS:
            self.assertEqual(patches.near((kind, TWO), 2).count(((2, 0), (0, 0))), 0)
            self.assertEqual(patches.near((kind, TWO), 2).count(((0, 0), (-2, 0))), 0)
            self.assertEqual(patches.near((kind, TWO), 2).count(((2, 0), (2, 0))), 0)
            wide = tuple([(fields.times(kind, x, (1001, 0, 1000)), y) for x, y in TWO])
            self.assertEqual(patches.near((kind, wide), 2).count(((2, 0), (0, 0))), 1)
            self.assertEqual(patches.near((kind, wide), 2).count(((-2, 0), (1, 0))), 1)


class PatchOf(unittest.TestCase):
    def test_all(self):
        for kind in KINDS:
            for floor in samples(kind):
                corner = floor[1][0]
                box = (corner[0], corner[1], fields.plus(corner[0], (7, 0, 1)), fields.plus(corner[1], (5, 0, 1)))
                for place, r in product(floors.places(floor, box)[:8], (0, 1, 2)):
                    found = patches.patch_of(floor, place, r)
                    self.assertIs(type(found), tuple)
                    self.assertEqual(found, plain.patch_of(floor, place, r))
                    self.assertEqual(list(found), [step for step in patches.near(floor, r)
                                                   if floors.has(floor, floors.added(place, step))])
        self.assertEqual(patches.patch_of(r=1, place=HERE, floor=(2, SQUARE)), ())

    def test_on_the_rims(self):
        # The mates of these places are corners and other points of the rims of parts.
        for kind in KINDS:
            floor = (kind, TWO)
            for a, b in product((0, 1), repeat=2):
                place = ((a, 0), (b, 0))
                found = patches.patch_of(floor, place, 1)
                self.assertEqual(found, plain.patch_of(floor, place, 1))
                pieces = patches.part(floor, 1, found)
                self.assertEqual([polygons.is_in(kind, piece, at(a, b)) for piece in pieces].count(True), 1)

    def test_r_is_reached(self):
        for kind in KINDS:
            found = patches.patch_of((kind, TWO), HERE, 1)
            for step in (((0, 0), (1, 0)), ((1, 0), (0, 0)), ((1, 0), (1, 0))):
                self.assertIn(step, found)
            self.assertEqual(patches.patch_of((kind, TWO), HERE, 0), ())


class Patches(unittest.TestCase):
    def test_all(self):
        for kind in KINDS:
            for floor in samples(kind):
                found = patches.patches(floor, 1)
                self.assertIs(type(found), list)
                parts = plain.parts(floor, 1)
                self.assertEqual(found, [(patch, plain.share(floor, parts[patch])) for patch in sorted(parts)])
                self.assertEqual(sum_of_shares(found), (1, 0, 1))

    def test_radius_0(self):
        for kind in KINDS:
            for floor in samples(kind):
                self.assertEqual(patches.patches(floor, 0), [((), (1, 0, 1))])
                self.assertEqual(patches.part(floor, 0, ()), (floor[1],))
        self.assertEqual(patches.patches(r=0, floor=(5, SQUARE)), [((), (1, 0, 1))])

    def test_each_place_has_one_of_them(self):
        for kind in KINDS:
            for floor in samples(kind)[:9]:
                told = dict(patches.patches(floor, 1))
                seen = {}
                for place in floors.places(floor, ((-15, 0, 1), (-15, 0, 1), (15, 0, 1), (15, 0, 1))):
                    patch = patches.patch_of(floor, place, 1)
                    self.assertIn(patch, told)
                    seen[patch] = seen.get(patch, 0) + 1
                count = sum(seen.values())
                for patch, share in told.items():
                    self.assertLess(abs(seen.get(patch, 0) - count * plain.real(kind, share)), 12 + count / 12)

    def test_square(self):
        for kind in (2, 3):
            quarter = (1, 0, 4)
            told = patches.patches((kind, TWO), 1)
            sides = [((a, 0), (b, 0)) for a, b in ((-1, 0), (-1, -1), (0, -1))]
            self.assertEqual([share for _, share in told], [quarter] * 4)
            self.assertEqual(told[0][0], tuple(sorted(sides)))
            self.assertEqual({step for patch, _ in told for step in patch}, set(patches.near((kind, TWO), 1)))

    def test_moved_floors_have_the_same(self):
        for kind in KINDS:
            for floor in samples(kind):
                there = floors.moved_floor(floor, ((-2, 3), (5, 1)))
                self.assertEqual(patches.patches(there, 1), patches.patches(floor, 1))
                self.assertEqual(patches.near(there, 2), patches.near(floor, 2))


class Parts(unittest.TestCase):
    def check(self, floor, r, patch):
        """Compare the part with the window, cut by hand; return its area."""
        kind, window = floor
        pieces = patches.part(floor, r, patch)
        self.assertIs(type(pieces), tuple)
        self.assertEqual(list(pieces), sorted(pieces))
        for piece in pieces:
            self.assertTrue(polygons.is_polygon(kind, piece))
        for one, other in combinations(pieces, 2):
            self.assertIsNone(polygons.met(kind, one, other))
        self.assertIs(patches.comes(floor, r, patch), len(pieces) > 0)
        share = patches.share(floor, r, patch)
        self.assertEqual(share, plain.share(floor, pieces))
        left = [window]
        for step in plain.near(floor, r):
            there = plain.before(floor, step)
            if step in patch:
                left = [met for piece in left for met in [polygons.met(kind, piece, there)] if met is not None]
            else:
                left = [rest for piece in left for rest in polygons.less(kind, piece, there)]
        if set(patch) - set(plain.near(floor, r)):
            left = []
        self.assertEqual(share, plain.share(floor, left))
        for piece in left:
            self.assertEqual(polygons.sum_of(kind, [met for told in pieces
                                                    for met in [polygons.met(kind, piece, told)] if met is not None]),
                             polygons.area(kind, piece))
        return share

    def test_those_that_come(self):
        for kind in KINDS:
            for floor in samples(kind):
                told = patches.patches(floor, 1)
                for patch, share in told[::len(told) // 6 + 1]:
                    self.assertEqual(self.check(floor, 1, patch), share)
                    self.assertNotEqual(share, (0, 0, 1))

    def test_those_that_do_not_come(self):
        for kind in KINDS:
            for floor in samples(kind):
                told = patches.patches(floor, 1)
                for patch, _ in told[::len(told) // 4 + 1]:
                    for other in (patch[1:], patch[:-1], patch[::2], (((-1, 0), (1, 0)),)):
                        if other not in dict(told):
                            self.assertEqual(self.check(floor, 1, other), (0, 0, 1))

    def test_the_empty_patch(self):
        for kind in KINDS:
            for floor in samples(kind):
                self.assertEqual(self.check(floor, 0, ()), (1, 0, 1))
                share = self.check(floor, 1, ())
                self.assertEqual(share, dict(patches.patches(floor, 1)).get((), (0, 0, 1)))
        self.assertEqual(patches.part((2, TWO), 1, ()), ())
        self.assertEqual(patches.part(patch=(), r=1, floor=(2, SQUARE)), (SQUARE,))

    def test_places_within_that_never_come(self):
        for kind in KINDS:
            for step in (((3, 0), (0, 0)), ((0, 0), (0, -3)), ((2, 0), (0, 0))):
                self.assertEqual(patches.part((kind, TWO), 6, (step,)), ())
                self.assertIs(patches.comes(patch=(step,), r=6, floor=(kind, TWO)), False)
                self.assertEqual(patches.share(patch=(step,), r=6, floor=(kind, TWO)), (0, 0, 1))

    def test_each_point_is_in_just_one_part(self):
        for kind in KINDS:
            for window in (TWO, HALVES, FIVE):
                floor = (kind, window)
                pieces = [piece for patch, _ in patches.patches(floor, 1) for piece in patches.part(floor, 1, patch)]
                self.assertEqual(polygons.sum_of(kind, pieces), polygons.area(kind, window))
                asked = sorted({corner for piece in pieces for corner in piece})[::5]
                for point in asked:
                    count = [polygons.is_in(kind, piece, point) for piece in pieces].count(True)
                    self.assertEqual(count, 1 if ref.inside(kind, window, point) else 0)


class Small(unittest.TestCase):
    def tiny_floor(self, kind, k):
        """A square that is by a very little wider than 1: just the places of this little have one beside them."""
        little = ref.power(kind, TINY[kind], 2 * k)
        wide = fields.plus((1, 0, 1), little)
        return (kind, ((at(0, 0)), (wide, (0, 0, 1)), (wide, (1, 0, 1)), at(0, 1))), little

    def test_very_small_parts(self):
        for kind, k in product((2, 3), (3, 30, 200)):
            floor, little = self.tiny_floor(kind, k)
            right = (((1, 0), (0, 0)),)
            share = fields.by(kind, little, fields.plus((1, 0, 1), little))
            self.assertEqual(patches.share(floor, 1, right), share)
            self.assertEqual(dict(patches.patches(floor, 1))[right], share)
            self.assertEqual(len(patches.patches(floor, 1)), 3)
            place = patches.found(floor, 1, right)
            self.assertIs(plain.has(floor, place) if k < 30 else True, True)
            self.assertEqual(patches.patch_of(floor, place, 1), right)
            self.assertEqual(patches.how_often(floor, 1, right[0]), share)

    def test_found(self):
        for kind in KINDS:
            for floor in samples(kind):
                told = patches.patches(floor, 1)
                for patch, _ in told[::len(told) // 12 + 1]:
                    place = patches.found(floor, 1, patch)
                    self.assertTrue(floors.is_place(place))
                    self.assertEqual(patches.patch_of(floor, place, 1), patch)
                    mate = plain.mate_point(kind, place)
                    pieces = patches.part(floor, 1, patch)
                    self.assertEqual([polygons.is_in(kind, piece, mate) for piece in pieces].count(True), 1)
                self.assertTrue(plain.has(floor, place))
                self.assertEqual(plain.patch_of(floor, place, 1), patch)
        self.assertTrue(plain.has((2, SHARP), patches.found(patch=(), r=0, floor=(2, SHARP))))


class HowOften(unittest.TestCase):
    def test_all(self):
        for kind in KINDS:
            for floor in samples(kind):
                told = patches.patches(floor, 1)
                for step in plain.near(floor, 1) + [((1, 0), (0, 0)), ((0, 0), (-1, 0))]:
                    found = patches.how_often(floor, 1, step)
                    self.assertEqual(found, sum_of_shares([(patch, share) for patch, share in told if step in patch]))
                    both = polygons.met(kind, floor[1], plain.before(floor, step))
                    self.assertEqual(found, plain.share(floor, [] if both is None else [both]))
        self.assertEqual(patches.how_often(step=((1, 0), (1, 0)), r=1, floor=(3, TWO)), (1, 0, 4))
        self.assertEqual(patches.how_often((2, TWO), 2, ((0, 0), (2, 0))), (0, 0, 1))
        self.assertEqual(patches.how_often((2, shifted(TWO, 4, -4)), 7, ((0, 0), (-1, 0))), (1, 0, 2))


if __name__ == "__main__":
    unittest.main()
