"""returns.py, where nothing is wrong."""

import unittest

from quasifloors import floors, patches, returns
from tests import plain
from tests.reference import KINDS
from tests.samples import FIVE, HALVES, INNER, ODD, SQUARE, THREE, TWO, shifted
from tests.samples import floors as samples


def great_patches(floor, least):
    """The patches that come often enough, the ones that come most often first: with shares greater than 1 by least."""
    shares = [(plain.real(floor[0], share), patch) for patch, share in patches.patches(floor, 1)]
    return [patch for share, patch in sorted(shares, reverse=True) if share > 1 / least]


class Again(unittest.TestCase):
    def check(self, floor, r, patch):
        """Show that the told distance is the least: by all that is left bare of it, by a lonely place below it."""
        far = returns.again(floor, r, patch)
        self.assertIs(type(far), int)
        self.assertEqual(plain.left_bare(floor, patches.part(floor, r, patch), far), [])
        for distance in range(far + 2):
            self.lonely(floor, r, patch, distance, far)
        return far

    def lonely(self, floor, r, patch, distance, far):
        place = returns.lonely(floor, r, patch, distance)
        self.assertIs(returns.is_again(floor, r, patch, distance), distance >= far)
        if distance >= far:
            self.assertIsNone(place)
        else:
            self.assertTrue(floors.is_place(place))
            self.assertTrue(plain.has(floor, place))
            self.assertFalse(plain.around(floor, place, r, patch, distance), (floor, patch, distance, place))

    def test_all(self):
        for kind in KINDS:
            for floor in samples(kind):
                for patch in great_patches(floor, 10)[:2]:
                    if returns.again(floor, 1, patch) < 7:
                        self.check(floor, 1, patch)

    def test_all_places_have_it(self):
        for kind in KINDS:
            for floor in samples(kind):
                self.assertEqual(self.check(floor, 0, ()), 0)
                self.assertIs(returns.is_again(floor, 0, (), 40), True)
                self.assertIsNone(returns.lonely(floor, 0, (), 0))
            self.assertEqual(returns.again((kind, SQUARE), 0, ()), 0)
        # In this floor no place is within 1 of another one.
        self.assertEqual([returns.again((kind, SQUARE), 1, ()) for kind in (2, 3)], [0, 0])

    def test_squares(self):
        for kind in KINDS:
            floor = (kind, TWO)
            told = patches.patches(floor, 1)
            for patch, _ in told[::3]:
                far = self.check(floor, 1, patch)
                self.assertEqual(far, returns.again(patch=patch, r=1, floor=floor))
        # A quarter of the square comes to each place by one step in each number, at most.
        self.assertEqual([returns.again((kind, TWO), 1, patch) for kind in (2, 3)
                          for patch, _ in patches.patches((kind, TWO), 1)], [1] * 8)

    def test_parts_of_several_polygons(self):
        seen = 0
        for kind in KINDS:
            for window in (HALVES, FIVE, ODD, INNER):
                floor = (kind, window)
                for patch in great_patches(floor, 30):
                    if len(patches.part(floor, 1, patch)) > 1 and returns.again(floor, 1, patch) < 6:
                        seen += 1
                        if seen % 3 == 0:
                            self.check(floor, 1, patch)
        self.assertGreater(seen, 6)

    def test_seen_from_places(self):
        for kind in KINDS:
            floor = (kind, HALVES)
            patch = great_patches(floor, 40)[0]
            far = returns.again(floor, 1, patch)
            for place in floors.places(floor, ((0, 0, 1), (0, 0, 1), (12, 0, 1), (12, 0, 1)))[::4]:
                self.assertTrue(plain.around(floor, place, 1, patch, far))

    def test_moved_floors(self):
        for kind in KINDS:
            for window in (THREE, FIVE):
                floor = (kind, window)
                there = floors.moved_floor(floor, ((30, -7), (-8, 99)))
                for patch in great_patches(floor, 20)[:3]:
                    self.assertEqual(returns.again(there, 1, patch), returns.again(floor, 1, patch))

    def test_far_ones(self):
        # The least of the shares that are still greater than 1 by so much.
        for kind, window, least in ((2, THREE, 5), (2, FIVE, 300), (3, HALVES, 30), (5, FIVE, 200)):
            floor = (kind, window)
            patch = great_patches(floor, least)[-1]
            far = returns.again(floor, 1, patch)
            self.assertGreater(far, 3)
            self.assertIsNone(returns.lonely(floor, 1, patch, far))
            for distance in (far - 1, far // 2, 0):
                place = returns.lonely(far=distance, patch=patch, r=1, floor=floor)
                self.assertTrue(plain.has(floor, place))
                others = floors.places(floor, plain.box_about(place, distance))
                self.assertNotIn(patch, [patches.patch_of(floor, other, 1) for other in others])
                self.assertIs(returns.is_again(far=distance, patch=patch, r=1, floor=floor), False)


class AllAgain(unittest.TestCase):
    def test_all(self):
        for kind in KINDS:
            for window in (SQUARE, TWO, THREE, INNER, shifted(TWO, 5, -5)):
                floor = (kind, window)
                found = returns.all_again(floor, 1)
                self.assertEqual(found, max([returns.again(floor, 1, patch) for patch, _ in patches.patches(floor, 1)]))
                self.assertEqual(returns.all_again(floor, 0), 0)
        self.assertEqual(returns.all_again(r=1, floor=(2, TWO)), 1)


if __name__ == "__main__":
    unittest.main()
