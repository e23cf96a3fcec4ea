"""The functions of fields.py, where nothing is wrong."""

import unittest
from itertools import product
from math import gcd

from quasifloors import fields
from tests import reference as ref
from tests.reference import KINDS, TINY

HUGE = 7 ** 71
VAST = 3 ** 900


def small_numbers():
    return [(a, b, n) for a, b, n in product(range(-3, 4), range(-3, 4), (1, 2, 3)) if gcd(a, b, n) == 1]


def drawn_numbers(count, size, start):
    """Numbers with integers up to a size, the n of some of them 1."""
    drawn = ref.some_numbers(3 * count, size, start)
    found = []
    for k in range(count):
        a, b, n = drawn[3 * k:3 * k + 3]
        n = 1 if k % 4 == 0 else abs(n) + 1
        shared = gcd(a, b, n)
        found.append((a // shared, b // shared, n // shared))
    return found


def all_sorts():
    found = [(0, 0, 1), (1, 0, 1), (-1, 0, 1), (0, 1, 1), (0, -1, 1), (1, 1, 2), (-5, 3, 7)]
    found += drawn_numbers(8, 999, 3)
    found += drawn_numbers(6, 10 ** 60, 5)
    found += drawn_numbers(4, 10 ** 400, 9)
    return found + [(HUGE, -VAST, 1), (-HUGE, 0, 2 ** 100), (0, VAST, 10 ** 60)]


SMALL = small_numbers()
ALL = all_sorts()


class Forms(unittest.TestCase):
    def test_numbers(self):
        for told in ALL + SMALL + [(0, 0, 1), (2, 2, 1), (2, 4, 3), (4, 6, 9), (0, 3, 2), (6, 0, 5), (6, 10, 15)]:
            self.assertIs(fields.is_number(told), True)
        self.assertIs(fields.is_number(told=(1, 2, 3)), True)

    def test_no_numbers(self):
        for told in [(), (1,), (1, 0), (1, 0, 1, 0), (0, 0, 2), (2, 4, 6), (2, 0, 2), (0, 3, 3), (4, 6, 2), (3, 0, 9),
                     (1, 0, 0), (0, 0, 0), (1, 1, -1), (0, 0, -1), (3, 5, -2), (True, 0, 1), (0, True, 1),
                     (1, 1, True), (False, 0, 1), (0, False, 1), (VAST, 2 * VAST, 3), (HUGE, HUGE, HUGE),
                     (1.0, 0, 1), (1, "0", 1), (1, 0, None), ((1, 0, 1),), [1, 0, 1], "101", None, 1, True,
                     (0, 0, True), ((1, 0, 1), (0, 0, 1))]:
            self.assertIs(fields.is_number(told), False)
            self.assertIs(fields.is_number(told=told), False)

    def test_form(self):
        for told, right in [((2, 4, -6), (-1, -2, 3)), ((0, 0, 5), (0, 0, 1)), ((0, 0, -5), (0, 0, 1)),
                            ((6, 0, 4), (3, 0, 2)), ((0, -6, 4), (0, -3, 2)), ((1, 2, 3), (1, 2, 3)),
                            ((-4, 6, -2), (2, -3, 1)), ((6, 10, 15), (6, 10, 15)), ((7, 0, -1), (-7, 0, 1)),
                            ((HUGE, -HUGE, -HUGE), (-1, 1, 1)), ((3 * VAST, 6 * VAST, 9 * VAST), (1, 2, 3))]:
            self.assertEqual(fields.number(*told), right)
            self.assertEqual(fields.number(a=told[0], b=told[1], n=told[2]), right)
        for a, b, n in ALL:
            self.assertEqual(fields.number(a * 12, b * 12, n * 12), (a, b, n))
            self.assertEqual(fields.number(-a * HUGE, -b * HUGE, -n * HUGE), (a, b, n))


class Sums(unittest.TestCase):
    """Each is compared with the same thing done to fractions."""

    def same(self, kind, found, right):
        self.assertEqual(found, ref.unrooted(kind, right))
        self.assertIsInstance(found, tuple)
        for k in found:
            self.assertIs(type(k), int)

    def test_plus_and_minus(self):
        for p, q in list(product(ALL, ALL)) + list(product(SMALL[::3], SMALL[::5])):
            for kind in KINDS:
                one, other = ref.rooted(kind, p), ref.rooted(kind, q)
                self.same(kind, fields.plus(p, q), ref.added(one, other))
                self.same(kind, fields.minus(p, q), ref.taken_off(one, other))

    def test_plus_and_minus_by_name(self):
        self.assertEqual(fields.plus(q=(1, 0, 2), p=(1, 1, 3)), (5, 2, 6))
        self.assertEqual(fields.minus(q=(1, 0, 2), p=(1, 1, 3)), (-1, 2, 6))
        self.assertEqual(fields.plus((1, 1, 2), (1, -1, 2)), (1, 0, 1))
        self.assertEqual(fields.minus((1, 1, 2), (1, 1, 2)), (0, 0, 1))

    def test_scaled(self):
        for p in ALL + SMALL:
            for k in (0, 1, -1, 2, -6, 999, HUGE, -VAST):
                right = ref.multiplied(2, ref.rooted(2, p), ref.rooted(2, (k, 0, 1)))
                self.same(2, fields.scaled(p, k), right)
        self.assertEqual(fields.scaled(k=-4, p=(1, 3, 6)), (-2, -6, 3))
        self.assertEqual(fields.scaled((5, 3, 6), 0), (0, 0, 1))

    def test_times_and_by(self):
        for kind in KINDS:
            for p, q in list(product(ALL, ALL)) + list(product(SMALL[::3], SMALL[::5])):
                one, other = ref.rooted(kind, p), ref.rooted(kind, q)
                self.same(kind, fields.times(kind, p, q), ref.multiplied(kind, one, other))
                if q != (0, 0, 1):
                    self.same(kind, fields.by(kind, p, q), ref.divided(kind, one, other))

    def test_times_and_by_by_name(self):
        self.assertEqual(fields.times(q=(0, 1, 2), kind=3, p=(1, 1, 1)), (3, 1, 2))
        self.assertEqual(fields.by(q=(0, 1, 1), kind=3, p=(1, 1, 1)), (3, 1, 3))
        self.assertEqual([fields.times(kind, (0, 1, 1), (0, 1, 1)) for kind in KINDS],
                         [(2, 0, 1), (3, 0, 1), (1, 1, 1)])
        self.assertEqual([fields.by(kind, (1, 0, 1), (0, 1, 1)) for kind in KINDS],
                         [(0, 1, 2), (0, 1, 3), (-1, 1, 1)])
        self.assertEqual([fields.by(kind, (0, 0, 1), (2, 1, 7)) for kind in KINDS], [(0, 0, 1)] * 3)
        self.assertEqual([fields.by(kind, (3, 0, 1), (-6, 0, 1)) for kind in KINDS], [(-1, 0, 2)] * 3)

    def test_mate_and_norm(self):
        for kind in KINDS:
            for p in ALL + SMALL:
                x, y = ref.rooted(kind, p)
                self.same(kind, fields.mate(kind, p), (x, -y))
                self.same(kind, fields.norm(kind, p), (x * x - kind * y * y, 0))
                self.assertEqual(fields.mate(kind, fields.mate(kind, p)), p)
                self.assertEqual(fields.norm(kind, p)[1], 0)

    def test_mate_and_norm_by_name(self):
        self.assertEqual([fields.mate(p=(2, 3, 4), kind=kind) for kind in KINDS], [(2, -3, 4), (2, -3, 4), (5, -3, 4)])
        self.assertEqual([fields.norm(p=(2, 3, 4), kind=kind) for kind in KINDS], [(-7, 0, 8), (-23, 0, 16), (1, 0, 16)])


class Sizes(unittest.TestCase):
    def test_sign(self):
        for kind in KINDS:
            for p in ALL + SMALL:
                sign = fields.sign(kind, p)
                self.assertEqual(sign, ref.sign_of(kind, ref.rooted(kind, p)))
                self.assertIs(type(sign), int)
            self.assertEqual(fields.sign(p=(0, 0, 1), kind=kind), 0)

    def test_compared(self):
        for kind in KINDS:
            for p, q in list(product(ALL, ALL[::2])) + list(product(SMALL[::3], SMALL[::4])):
                right = ref.sign_of(kind, ref.taken_off(ref.rooted(kind, p), ref.rooted(kind, q)))
                self.assertEqual(fields.compared(kind, p, q), right)
                self.assertIs(type(fields.compared(kind, p, q)), int)
            self.assertEqual(fields.compared(q=(1, 0, 1), kind=kind, p=(0, 1, 1)), 1)

    def test_floor(self):
        for kind in KINDS:
            for p in ALL + SMALL:
                self.assertEqual(fields.floor_of(kind, p), ref.floor_of(kind, ref.rooted(kind, p)))
            self.assertEqual(fields.floor_of(p=(-7, 0, 2), kind=kind), -4)
            self.assertEqual([fields.floor_of(kind, (k, 0, 1)) for k in (-HUGE, -1, 0, 1, VAST)],
                             [-HUGE, -1, 0, 1, VAST])
        self.assertEqual([fields.floor_of(kind, (0, 1, 1)) for kind in KINDS], [1, 1, 1])
        self.assertEqual([fields.floor_of(kind, (0, -1, 1)) for kind in KINDS], [-2, -2, -2])

    def test_about(self):
        for kind in KINDS:
            for p in ALL[::2] + SMALL[::7]:
                for n in (0, 1, 2, 13, 60):
                    x, y = ref.rooted(kind, p)
                    right = ref.floor_of(kind, (x * 10 ** n, y * 10 ** n))
                    self.assertEqual(fields.about(kind, p, n), right)

    def test_about_each_power(self):
        roots = {2: "141421356237309504880168872420969807856967187537694807317667973",
                 3: "173205080756887729352744634150587236694280525381038062805580697",
                 5: "161803398874989484820458683436563811772030917980576286213544862"}
        for kind in KINDS:
            for n in range(61):
                self.assertEqual(fields.about(kind, (0, 1, 1), n), int(roots[kind][:n + 1]))
                self.assertEqual(fields.about(kind, (0, -1, 1), n), -int(roots[kind][:n + 1]) - 1)
                self.assertEqual(fields.about(kind, (0, 0, 1), n), 0)
                self.assertEqual(fields.about(kind, (-3, 0, 1), n), -3 * 10 ** n)
                self.assertEqual(fields.about(n=n, p=(1, 0, 3), kind=kind), int("0" + "3" * n))

    def test_units(self):
        self.assertEqual([fields.unit(kind) for kind in KINDS], [(1, 1, 1), (2, 1, 1), (0, 1, 1)])
        self.assertEqual([fields.stretch_unit(kind=kind) for kind in KINDS], [(3, 2, 1), (2, 1, 1), (1, 1, 1)])
        self.assertEqual([fields.unit(kind=kind) for kind in KINDS], [fields.unit(kind) for kind in KINDS])

    def test_units_are_the_least(self):
        for kind in KINDS:
            whole = [p for p in product(range(-9, 10), range(-9, 10), (1,))
                     if fields.norm(kind, p) in ((1, 0, 1), (-1, 0, 1)) and fields.compared(kind, p, (1, 0, 1)) > 0]
            stretching = [p for p in whole if fields.sign(kind, fields.mate(kind, p)) > 0]
            for p in whole:
                self.assertIn(fields.compared(kind, fields.unit(kind), p), (-1, 0))
            for p in stretching:
                self.assertIn(fields.compared(kind, fields.stretch_unit(kind), p), (-1, 0))
            self.assertIn(fields.unit(kind), whole)
            self.assertIn(fields.stretch_unit(kind), stretching)


class VeryNear(unittest.TestCase):
    """Powers of the mates of units: each is nearer to 0 than any power of 10 that one would think of."""

    def powers(self, kind):
        for k in (1, 2, 3, 10, 11, 100, 101, 400, 401, 1400, 1401):
            # 1 - w of 2 and 5 is below 0, 2 - w of 3 above it.
            yield ref.power(kind, TINY[kind], k), (1 if kind == 3 or k % 2 == 0 else -1)

    def test_near_0(self):
        for kind in KINDS:
            for p, sign in self.powers(kind):
                turned = (-p[0], -p[1], 1)
                self.assertEqual(fields.sign(kind, p), sign)
                self.assertEqual(fields.sign(kind, turned), -sign)
                self.assertEqual(fields.compared(kind, p, (0, 0, 1)), sign)
                self.assertEqual(fields.compared(kind, turned, (0, 0, 1)), -sign)
                self.assertEqual(fields.floor_of(kind, p), min(sign, 0))
                self.assertEqual(fields.floor_of(kind, turned), min(-sign, 0))
                self.assertEqual(fields.norm(kind, p)[0], 1 if kind == 3 else sign)

    def test_near_an_integer(self):
        for kind in KINDS:
            for p, sign in self.powers(kind):
                for k in (-VAST, -999, -1, 1, 2, 5, HUGE):
                    beside = (p[0] + k, p[1], 1)
                    self.assertEqual(fields.floor_of(kind, beside), k + min(sign, 0))
                    self.assertEqual(fields.compared(kind, beside, (k, 0, 1)), sign)
                    self.assertEqual(fields.compared(kind, (k, 0, 1), beside), -sign)

    def test_near_each_other(self):
        for kind in KINDS:
            for p, sign in self.powers(kind):
                for q in ALL:
                    beside = fields.plus(q, p)
                    self.assertEqual(fields.compared(kind, beside, q), sign)
                    self.assertEqual(fields.compared(kind, q, beside), -sign)
                    self.assertEqual(fields.compared(kind, beside, beside), 0)

    def test_two_near_ones(self):
        for kind in KINDS:
            near = [ref.power(kind, TINY[kind], k) for k in range(300, 309, 2)]
            for k, p in enumerate(near):
                for j, q in enumerate(near):
                    self.assertEqual(fields.compared(kind, p, q), (k < j) - (k > j))

    def test_about_near_an_integer(self):
        for kind in KINDS:
            for p, sign in self.powers(kind):
                if abs(p[0]) > 10 ** 70:
                    for n in range(61):
                        self.assertEqual(fields.about(kind, p, n), min(sign, 0))
                        self.assertEqual(fields.about(kind, (p[0] + 7, p[1], 1), n), 7 * 10 ** n + min(sign, 0))

    def test_great_ones(self):
        for kind in KINDS:
            p = fields.by(kind, (1, 0, 1), ref.power(kind, TINY[kind], 1200))
            self.assertEqual(p[2], 1)
            # It and its mate add up to an integer, and the mate is between 0 and 1.
            together = fields.plus(p, fields.mate(kind, p))
            self.assertEqual(together[1:], (0, 1))
            self.assertEqual(fields.floor_of(kind, p), together[0] - 1)
            self.assertEqual(fields.floor_of(kind, fields.scaled(p, -1)), -together[0])


if __name__ == "__main__":
    unittest.main()
