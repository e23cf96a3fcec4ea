"""rules.py, where nothing is wrong."""

import copy
import unittest

from quasifloors import floors, patches, polygons, rules
from tests import plain, stretching
from tests import reference as ref
from tests.reference import KINDS
from tests.samples import AWAY, DOWN, FIVE, HALVES, INNER, ODD, SHARP, SLIM, SQUARE, THREE, TWO, at, shifted
from tests.samples import floors as samples

# An oblong and others with corners that are whole numbers, so that they may grow.
OBLONG = (((0, 0, 1), (0, 0, 1)), ((0, 1, 1), (0, 0, 1)), ((0, 1, 1), (1, 0, 1)), ((0, 0, 1), (1, 0, 1)))
SIX = (((-1, 0, 1), (-1, 0, 1)), ((0, 0, 1), (-1, 0, 1)), ((1, 0, 1), (0, 0, 1)), ((1, 0, 1), (1, 0, 1)),
       ((0, 0, 1), (1, 0, 1)), ((-1, 0, 1), (0, 0, 1)))


def some_places(floor, wide):
    """Places of a floor that has (0, 0) about there."""
    return floors.places(floor, plain.box_about(plain.HERE, wide))


class Rules(unittest.TestCase):
    def test_against_cutting(self):
        for kind in KINDS:
            unit = stretching.GROWING[kind]
            for window in (SQUARE, TWO, THREE, FIVE, ODD, SHARP, SLIM, AWAY):
                floor = (kind, window)
                for r in (0, 1):
                    if r == 1 and window in (AWAY, ODD):
                        continue
                    expected = stretching.rule(floor, unit, r)
                    self.assertEqual(rules.rule(floor, unit, r), expected)
                    self.assertEqual(rules.rule(r=r, unit=unit, floor=floor), expected)
                    self.assertEqual(list(expected), sorted(expected))
                    self.assertIs(rules.is_rule(floor, unit, r, expected), True)

    def test_held_by_places(self):
        for kind in KINDS:
            unit = stretching.GROWING[kind]
            for window in (TWO, HALVES, DOWN):
                floor = (kind, window)
                told = dict(rules.rule(floor, unit, 1))
                for place in some_places(floor, 5)[:15]:
                    start = tuple([stretching.times_pair(kind, unit, pair) for pair in place])
                    patch = plain.patch_of(floor, place, 1)
                    for step in told[patch]:
                        self.assertTrue(plain.has(floor, plain.added(start, step)))

    def test_no_other_step_holds(self):
        # Each step that is not told leads some place astray, one of those of a great box.
        for kind in KINDS:
            unit = stretching.GROWING[kind]
            floor = (kind, THREE)
            told = dict(rules.rule(floor, unit, 1))
            missed = {patch: {step for step in stretching.candidates(floor, unit) if step not in steps}
                      for patch, steps in told.items()}
            many = sum([len(steps) for steps in missed.values()])
            for place in floors.places(floor, plain.box_about(plain.HERE, 30)):
                start = tuple([stretching.times_pair(kind, unit, pair) for pair in place])
                left = missed[patches.patch_of(floor, place, 1)]
                left -= {step for step in left if not floors.has(floor, plain.added(start, step))}
            self.assertLess(sum([len(steps) for steps in missed.values()]), many / 20)

    def test_steps_are_within_the_unit(self):
        for kind in KINDS:
            a, b = stretching.GROWING[kind]
            seen = set()
            for window in (SQUARE, TWO, INNER):
                for _, steps in rules.rule((kind, window), (a, b), 0):
                    for step in steps:
                        for pair in step:
                            seen.add(pair)
                            self.assertTrue(plain.between(kind, (-a, -b, 1), pair + (1,), (a, b, 1)))
            # The unit itself is as great as a step may be.
            self.assertTrue({(a, b), (-a, -b)} <= seen)

    def test_patches_without_steps(self):
        # From the triangle's corners nothing leads back by so short steps.
        told = rules.rule((5, SHARP), (1, 1), 1)
        self.assertEqual([len(steps) for _, steps in told], [0, 2, 1])
        self.assertIs(rules.is_rule((5, SHARP), (1, 1), 1, told), True)
        self.assertIs(rules.grows((5, SHARP), (1, 1), 1), False)
        # Half of a square, beside (0, 0): none of its places leads on.
        small = (((-12, 0, 5), (-12, 0, 7)), ((-19, 0, 10), (-12, 0, 7)), ((-19, 0, 10), (-17, 0, 14)),
                 ((-12, 0, 5), (-17, 0, 14)))
        for kind, up in ((3, 3), (5, 0)):
            unit = stretching.GROWING[kind]
            floor = (kind, polygons.moved(kind, small, ((0, 0, 1), (15, 0, 7)) if up else at(0, 0)))
            self.assertEqual(rules.rule(floor, unit, 0), (((), ()),))
            self.assertIs(rules.is_rule(floor, unit, 0, (((), ()),)), True)
            self.assertIs(rules.grows(floor, unit, 0), False)
            place = rules.ungrown(floor, unit, 0)
            self.assertTrue(plain.has(floor, place))
            self.assertEqual(rules.grown(floor, unit, 0, (place,)), ())


class Growing(unittest.TestCase):
    def comes_of_none(self, floor, unit, r, place):
        kind = floor[0]
        self.assertTrue(floors.is_place(place))
        self.assertTrue(plain.has(floor, place))
        told = dict(rules.rule(floor, unit, r))
        for step, source in stretching.sources(kind, unit, place, stretching.candidates(floor, unit)):
            if plain.has(floor, source):
                self.assertNotIn(step, told[plain.patch_of(floor, source, r)])

    def check(self, floor, unit, r):
        place = rules.ungrown(floor, unit, r)
        self.assertEqual(rules.ungrown(r=r, unit=unit, floor=floor), place)
        self.assertIs(rules.grows(floor, unit, r), place is None)
        self.assertIs(rules.grows(unit=unit, r=r, floor=floor), place is None)
        if place is None:
            self.assertEqual(stretching.bare(floor, unit, r), [])
        else:
            self.comes_of_none(floor, unit, r, place)
        return place is None

    def test_grows(self):
        for kind in KINDS:
            told = [self.check(floor, stretching.GROWING[kind], 0) for floor in samples(kind)]
            self.assertIs(told[4], True)
            self.assertIn(False, told)
        self.assertEqual([rules.grows((kind, SQUARE), stretching.GROWING[kind], 0) for kind in KINDS],
                         [False, False, True])

    def test_grows_by_patches(self):
        for kind in KINDS:
            for window in (SQUARE, THREE, DOWN, SHARP, SLIM, FIVE):
                self.check((kind, window), stretching.GROWING[kind], 1)
        # By its patches it grows, but not by one rule for all of its places.
        self.assertIs(self.check((5, TWO), (1, 1), 0), False)
        self.assertIs(self.check((5, TWO), (1, 1), 1), True)

    def test_corners_of_whole_numbers(self):
        seen = []
        for kind in KINDS:
            for window in (OBLONG, SIX, shifted(SIX, 1, 0), shifted(OBLONG, -1, 0)):
                for r in (0, 1):
                    seen.append(self.check((kind, window), stretching.GROWING[kind], r))
        self.assertGreater(seen.count(True), 3)
        self.assertGreater(seen.count(False), 3)

    def test_just_bare(self):
        # The square with a corner at (0, 0) grows, and one that is longer by 1 by 999 does not.
        for extra in (0, 1):
            x = (999 + extra, 0, 999) if extra else (1, 0, 1)
            window = polygons.polygon(5, [((0, 0, 1), (0, 0, 1)), (x, (0, 0, 1)), (x, (1, 0, 1)), ((0, 0, 1), (1, 0, 1))])
            self.assertIs(self.check((5, window), (1, 1), 0), extra == 0)

    def test_places_that_come(self):
        for kind in KINDS:
            unit = stretching.GROWING[kind]
            # All within the stretched box come of places in the box, where the floor grows.
            floor = (kind, INNER)
            some = tuple(floors.places(floor, plain.box_about(plain.HERE, 6)))
            told = set(rules.grown(floor, unit, 0, some))
            for place in floors.places(floor, plain.box_about(plain.HERE, 5)):
                self.assertIn(place, told)


class Grown(unittest.TestCase):
    def expected(self, floor, unit, r, some):
        told = dict(rules.rule(floor, unit, r))
        found = set()
        for place in some:
            start = tuple([stretching.times_pair(floor[0], unit, pair) for pair in place])
            for step in told[plain.patch_of(floor, place, r)]:
                found.add(plain.added(start, step))
        return tuple(sorted(found))

    def test_grown(self):
        for kind in KINDS:
            unit = stretching.GROWING[kind]
            for window in (SQUARE, TWO, INNER, HALVES, ODD):
                floor = (kind, window)
                some = tuple(some_places(floor, 3)[:12])
                for r in (0, 1):
                    expected = self.expected(floor, unit, r, some)
                    self.assertEqual(rules.grown(floor, unit, r, some), expected)
                    self.assertEqual(rules.grown(some=some, r=r, unit=unit, floor=floor), expected)
                    self.assertTrue(all([plain.has(floor, place) for place in expected]))

    def test_sequence_and_places_twice(self):
        for kind in KINDS:
            unit = stretching.GROWING[kind]
            floor = (kind, INNER)
            some = tuple(some_places(floor, 3)[:9])
            expected = rules.grown(floor, unit, 1, some)
            self.assertEqual(rules.grown(floor, unit, 1, some[::-1]), expected)
            self.assertEqual(rules.grown(floor, unit, 1, some + some[3:5] + some[:1] * 3), expected)
            self.assertEqual(rules.grown(floor, unit, 1, ()), ())
            one = rules.grown(floor, unit, 1, some[:1])
            self.assertEqual(rules.grown(floor, unit, 1, some[:1] * 2), one)
            self.assertLess(set(one), set(expected))

    def test_what_is_grown_grows(self):
        for kind in KINDS:
            floor = (kind, TWO)
            told = (plain.HERE,)
            for _ in range(2):
                told = rules.grown(floor, stretching.GROWING[kind], 0, told)
                self.assertTrue(all([floors.has(floor, place) for place in told]))
            self.assertGreater(len(told), 50)


class IsRule(unittest.TestCase):
    def test_nearly_the_rule(self):
        for kind in KINDS:
            unit = stretching.GROWING[kind]
            floor = (kind, TWO)
            told = rules.rule(floor, unit, 1)
            self.assertIs(rules.is_rule(told=copy.deepcopy(told), r=1, unit=unit, floor=floor), True)
            patch, steps = told[1]
            for wrong in [told[1:], told[:-1], told[::-1], told + told[:1], (), told[:1] + ((patch, steps[1:]),) + told[2:],
                          told[:1] + ((patch, steps[::-1]),) + told[2:], told[:1] + ((patch, ()),) + told[2:],
                          told[:1] + ((patch[1:], steps),) + told[2:], (((), ()),), rules.rule(floor, unit, 0)]:
                self.assertIs(rules.is_rule(floor, unit, 1, wrong), False)
            self.assertIs(rules.is_rule((kind, THREE), unit, 1, told), False)
            self.assertIs(rules.is_rule(floor, unit, 0, told), False)

    def test_other_units(self):
        # Somewhat greater ones and the same rules: what holds is told by cutting.
        for kind, unit, window in ((5, (2, 3), SHARP), (3, (7, 4), SLIM), (2, (17, 12), SHARP)):
            told = rules.rule((kind, window), unit, 0)
            self.assertEqual(told, stretching.rule((kind, window), unit, 0))
            self.assertGreater(len(told[0][1]), 0)


if __name__ == "__main__":
    unittest.main()
