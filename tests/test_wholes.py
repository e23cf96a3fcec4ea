"""wholes.py, which is no part of the interface: just those whole numbers that are asked for."""

import unittest
from itertools import product

from quasifloors import wholes
from tests import plain
from tests import reference as ref
from tests.reference import KINDS

NUMBERS = [(-7, 0, 2), (-1, -1, 1), (0, 0, 1), (1, 0, 3), (0, 1, 1), (3, 1, 1), (30, -1, 2)]


class Between(unittest.TestCase):
    def test_all(self):
        for kind in KINDS:
            for low, high in product(NUMBERS, NUMBERS):
                for least, most in product(NUMBERS[1:5], NUMBERS[1:5]):
                    found = wholes.wholes_between(kind, low, high, least, most)
                    self.assertEqual(len(found), len(set(found)))
                    if plain.real(kind, low) <= plain.real(kind, high):
                        self.assertEqual(sorted(found), sorted(plain.wholes(kind, low, high, least, most)))
                    else:
                        self.assertEqual(found, [])

    def test_ends(self):
        for kind in KINDS:
            for pair in ((3, 5), (-2, 1), (0, 0), (40, -7)):
                end, mate = plain.whole(pair), plain.mate(kind, pair)
                for low, high in product((end, (-999, 0, 1)), (end, (999, 0, 1))):
                    for least, most in product((mate, (-1, 0, 1)), (mate, (1, 0, 1))):
                        if plain.at_most(kind, least, mate) and plain.at_most(kind, mate, most):
                            self.assertIn(pair, wholes.wholes_between(kind, low, high, least, most))
                little = (1, 0, 10 ** 30)
                beside = ref.unrooted(kind, ref.added(ref.rooted(kind, end), ref.rooted(kind, little)))
                self.assertNotIn(pair, wholes.wholes_between(kind, beside, (9999, 0, 1), mate, mate))
                beside = ref.unrooted(kind, ref.taken_off(ref.rooted(kind, mate), ref.rooted(kind, little)))
                self.assertNotIn(pair, wholes.wholes_between(kind, end, end, (-99, 0, 1), beside))

    def test_long_and_short(self):
        for kind in KINDS:
            short = (0, 0, 1), (1, 0, 30)
            long = (-90, 0, 1), (90, 0, 1)
            found = wholes.wholes_between(kind, *long, *short)
            self.assertEqual(sorted(found), sorted(plain.wholes(kind, *long, *short)))
            self.assertEqual(len(wholes.wholes_between(kind, *short, *long)), len(found))


class Behind(unittest.TestCase):
    def test_all(self):
        for kind in KINDS:
            for power in ((1, 0), ref.power(kind, {2: (3, 2, 1), 3: (2, 1, 1), 5: (1, 1, 1)}[kind], 3)[:2]):
                size = plain.mate(kind, power)
                for start in NUMBERS + [plain.mate(kind, (5, 7)), (1, 1, 999)]:
                    found = wholes.whole_behind(kind, start, power)
                    end = ref.unrooted(kind, ref.added(ref.rooted(kind, start), ref.rooted(kind, size)))
                    mate = plain.mate(kind, found)
                    self.assertTrue(plain.at_most(kind, start, mate))
                    self.assertFalse(plain.at_most(kind, end, mate))
                    # Of all that there are it is one of those that are nearest to 0.
                    self.assertLess(abs(plain.real(kind, plain.whole(found))), 5 * plain.real(kind, plain.whole(power)))


if __name__ == "__main__":
    unittest.main()
