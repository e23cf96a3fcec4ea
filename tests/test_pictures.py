"""pictures.py, where nothing is wrong."""

import unittest
from itertools import product

from quasifloors import pictures, rows
from tests import plain
from tests import reference as ref
from tests.reference import KINDS
from tests.samples import DIAMOND, FIVE, HALVES, INNER, ODD, SHARP, SQUARE, THIN, TWO, shifted
from tests.samples import floors as samples
from tests.test_rows import samples as row_samples


def number(a, n):
    return ref.unrooted(2, (ref.Fraction(a, n), ref.Fraction(0)))


def is_between(kind, low, pair, high):
    """Whether a whole number is from a number on and below another one."""
    p = pair + (1,)
    return plain.between(kind, low, p, high) and p != high


def plain_drawn(floor, left, low, wide, high, size):
    """Each sign by all places of the box that are in its small square."""
    kind = floor[0]
    there = plain.places(floor, ((left, 0, 1), (low, 0, 1), number(left * size + wide, size), number(low * size + high, size)))
    lines = []
    for j in range(high - 1, -1, -1):
        line = ""
        for i in range(wide):
            inside = [place for place in there
                      if is_between(kind, number(left * size + i, size), place[0], number(left * size + i + 1, size))
                      and is_between(kind, number(low * size + j, size), place[1], number(low * size + j + 1, size))]
            line += "#" if inside else "."
        lines.append(line)
    return lines


class Drawn(unittest.TestCase):
    def compare(self, floor, *told):
        expected = plain_drawn(floor, *told)
        found = pictures.drawn(floor, *told)
        self.assertIs(type(found), list)
        self.assertEqual(found, expected, (floor, told))
        names = ("left", "low", "wide", "high", "size")
        self.assertEqual(pictures.drawn(floor=floor, **dict(reversed(list(zip(names, told))))), expected)
        return "".join(found).count("#")

    def test_drawn(self):
        for kind in KINDS:
            for floor in samples(kind):
                seen = 0
                for told in [(0, 0, 6, 5, 1), (-3, 2, 7, 4, 2), (-2, -1, 5, 9, 3), (5, -7, 3, 3, 1), (9, 7, 4, 6, 2)]:
                    seen += self.compare(floor, *told)
                if floor[1] in (SQUARE, TWO, INNER, HALVES):
                    self.assertGreater(seen, 3)

    def test_places_on_rims(self):
        # (0, 0), (1, 0) and the like lie just where the small squares meet.
        for kind in KINDS:
            for left, low in product((-1, 0, 1), repeat=2):
                for size in (1, 2):
                    self.compare((kind, TWO), left, low, 3, 3, size)
            self.assertEqual(pictures.drawn((kind, TWO), 0, 0, 1, 1, 8), ["#"])
            self.assertEqual(pictures.drawn((kind, TWO), -1, -1, 1, 1, 1), plain_drawn((kind, TWO), -1, -1, 1, 1, 1))
        self.assertEqual(pictures.drawn((2, SQUARE), -1, -1, 2, 2, 2), ["..", ".."])
        self.assertEqual(pictures.drawn((2, SQUARE), -1, -1, 3, 3, 2), ["..#", "...", "..."])

    def test_no_rows_and_no_columns(self):
        for kind in KINDS:
            for wide in (0, 3):
                self.assertEqual(pictures.drawn((kind, TWO), 0, 0, wide, 0, 1), [])
            self.assertEqual(pictures.drawn((kind, TWO), 0, 0, 0, 3, 1), ["", "", ""])
            self.assertEqual(pictures.drawn_row((kind, (0, 0, 1), (1, 0, 1)), 0, 0, 1), "")

    def test_the_most(self):
        for kind in KINDS:
            for floor in ((kind, TWO), (kind, FIVE)):
                told = pictures.drawn(floor, -15, -15, 30, 30, 1)
                self.assertEqual([len(told)] + [len(line) for line in told], [30] * 31)
                self.assertEqual(told, [line[:30] for line in pictures.drawn(floor, -15, -15, 31, 30, 1)])
                self.compare(floor, -1, -2, 30, 20, 8)

    def test_lists_are_new(self):
        told = pictures.drawn((2, TWO), 0, 0, 3, 3, 1)
        before = list(told)
        told.clear()
        self.assertEqual(pictures.drawn((2, TWO), 0, 0, 3, 3, 1), before)
        told = pictures.drawn_window((2, TWO), 1, 2, 2)
        before = list(told)
        told.clear()
        self.assertEqual(pictures.drawn_window((2, TWO), 1, 2, 2), before)


class DrawnRow(unittest.TestCase):
    def test_drawn_row(self):
        for kind in KINDS:
            for row in row_samples(kind):
                for left, wide, size in [(0, 12, 1), (-5, 30, 2), (-2, 17, 8), (7, 5, 3), (0, 1, 1)]:
                    there = rows.members(row, (left, 0, 1), number(left * size + wide, size))
                    expected = ""
                    for i in range(wide):
                        ends = [number(left * size + k, size) for k in (i, i + 1)]
                        expected += "#" if any([is_between(kind, ends[0], pair, ends[1]) for pair in there]) else "."
                    self.assertEqual(pictures.drawn_row(row, left, wide, size), expected)
                    self.assertEqual(pictures.drawn_row(size=size, wide=wide, left=left, row=row), expected)

    def test_known_ones(self):
        row = (5, (0, 0, 1), (1, 0, 1))
        # 0, 2.6, 5.2, 6.9: the members of the row of the gaps 1.6 and 2.6.
        self.assertEqual(pictures.drawn_row(row, 0, 8, 1), "#.#..##.")
        self.assertEqual(pictures.drawn_row(row, -1, 1, 1), ".")
        self.assertEqual(pictures.drawn_row(row, 0, 1, 8), "#")


class DrawnWindow(unittest.TestCase):
    def expected(self, floor, size, wide, high):
        kind, window = floor
        return ["".join(["#" if ref.inside(kind, window, (number(i, size), number(j, size))) else "."
                         for i in range(-wide, wide + 1)]) for j in range(high, -high - 1, -1)]

    def test_drawn_window(self):
        for kind in KINDS:
            for window in (SQUARE, TWO, INNER, DIAMOND, HALVES, FIVE, ODD, SHARP, THIN, shifted(TWO, -1, -1)):
                floor = (kind, window)
                for size, wide, high in [(1, 3, 2), (2, 5, 5), (3, 4, 7)]:
                    expected = self.expected(floor, size, wide, high)
                    self.assertEqual(pictures.drawn_window(floor, size, wide, high), expected)
                    self.assertEqual(pictures.drawn_window(high=high, wide=wide, size=size, floor=floor), expected)

    def test_rims(self):
        self.assertEqual(pictures.drawn_window((2, TWO), 1, 3, 3),
                         [".......", ".......", "...##..", "...##..", ".......", ".......", "......."])
        for kind in KINDS:
            self.assertEqual(pictures.drawn_window((kind, SQUARE), 1, 0, 0), ["#"])
            self.assertEqual(pictures.drawn_window((kind, shifted(SQUARE, -1, 0)), 1, 0, 0), ["."])
            self.assertEqual(pictures.drawn_window((kind, shifted(SQUARE, 0, -1)), 1, 0, 0), ["."])
            # From its lowest corner a move to the right leads out, from the one at the left it does not.
            self.assertEqual(pictures.drawn_window((kind, DIAMOND), 1, 0, 2), [".", "#", "#", "#", "."])
            self.assertEqual(pictures.drawn_window((kind, DIAMOND), 1, 2, 0), ["####."])

    def test_the_most(self):
        for kind in KINDS:
            told = pictures.drawn_window((kind, shifted(TWO, -1, -1)), 8, 30, 30)
            self.assertEqual([len(line) for line in told], [61] * 61)
            self.assertEqual(sum([line.count("#") for line in told]), 256)


if __name__ == "__main__":
    unittest.main()
