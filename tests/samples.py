"""Points and polygons that the tests of polygons.py use, for all kinds alike."""

from itertools import product


def at(x, y):
    """A point of integers."""
    return ((x, 0, 1), (y, 0, 1))


SQUARE = (at(0, 0), at(1, 0), at(1, 1), at(0, 1))
BIG = (at(-3, -3), at(3, -3), at(3, 3), at(-3, 3))
INNER = (at(-1, -1), at(1, -1), at(1, 1), at(-1, 1))
THREE = (at(0, 0), at(2, 0), at(0, 2))
DOWN = (at(-1, 1), at(1, -1), at(1, 1))
DIAMOND = (at(-2, 0), at(0, -2), at(2, 0), at(0, 2))
SIX = (at(-2, 0), at(-1, -2), at(1, -2), at(2, 0), at(1, 2), at(-1, 2))
THIN = (at(-3, 0), at(3, 0), ((3, 0, 1), (1, 0, 100)))
# With w: corners at w, at half of w, at 1 less w and the like.
ODD = (((1, -1, 1), (0, 0, 1)), ((0, 1, 2), (-1, 0, 3)), ((0, 1, 1), (0, 1, 1)), ((0, 0, 1), (2, 0, 1)))
FLAT = (((-1, 0, 2), (0, -1, 2)), ((0, 1, 1), (0, -1, 2)), ((1, 1, 2), (0, 1, 3)))
SHARP = (((-1, -1, 3), (-1, 0, 1)), ((2, 0, 1), (1, 0, 1)), ((1, 0, 1), (1, 0, 2)))
TWELVE = (at(-4, -2), at(-3, -4), at(-1, -5), at(1, -5), at(3, -4), at(4, -2), at(4, -1), at(3, 2), at(1, 4),
          at(-1, 4), at(-3, 2), at(-4, -1))
SHAPES = [SQUARE, BIG, INNER, THREE, DOWN, DIAMOND, SIX, THIN, ODD, FLAT, SHARP, TWELVE]


def shifted(polygon, x, y):
    """A polygon moved by integers, without the program."""
    return tuple([((a + x * n, b, n), (c + y * m, d, m)) for (a, b, n), (c, d, m) in polygon])


def grid():
    """Points with numbers of a few sorts: integers, halves, some with w."""
    numbers = [(-3, 0, 1), (-1, 0, 1), (-1, 0, 2), (0, 0, 1), (1, 0, 2), (1, 0, 1), (2, 0, 1), (1, -1, 1),
               (0, 1, 2), (0, 1, 1), (2, -1, 1)]
    return list(product(numbers, numbers))


def part_by(x, y, n):
    """A point of two integers by a third one."""
    return tuple([(a // n, 0, 1) if a % n == 0 else (a, 0, n) for a in (x, y)])


TWO = (at(0, 0), at(2, 0), at(2, 2), at(0, 2))
HALVES = tuple([part_by(x, y, 2) for x, y in ((-2, 0), (-1, -2), (1, -2), (2, 0), (1, 2), (-1, 2))])
FIVE = (((-1, 0, 1), (-1, 0, 3)), ((1, 0, 7), (-1, 0, 1)), ((5, 0, 4), (-1, 0, 2)), ((0, 1, 2), (2, 0, 3)),
        ((-1, 0, 2), (1, 0, 1)))
SLIM = (at(-2, 0), at(2, 0), ((2, 0, 1), (1, 0, 3)), ((-2, 0, 1), (1, 0, 6)))
AWAY = shifted(FIVE, -300, 999)
# Of three to six corners, with whole and broken numbers, with and without w; of areas from 1 by 4 to 6.
WINDOWS = [SQUARE, TWO, THREE, DOWN, INNER, HALVES, FIVE, SLIM, ODD, FLAT, SHARP, AWAY]


def floors(kind):
    return [(kind, window) for window in WINDOWS]
