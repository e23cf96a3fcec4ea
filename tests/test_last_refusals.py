"""The errors of pictures.py: which ones, with which value, in which sequence."""

import unittest

from quasifloors import pictures
from tests.refusing import INTEGERS_WRONG, Refusing
from tests.samples import SQUARE, TWO
from tests.test_floor_refusals import FLOORS_WRONG
from tests.test_growth_refusals import ROWS_WRONG

NONE, ONE = (0, 0, 1), (1, 0, 1)
FLOOR = ("floor", ((2, TWO), (5, SQUARE)), "InvalidFloor", FLOORS_WRONG)
ROW = ("row", ((2, NONE, ONE), (5, NONE, ONE)), "InvalidRow", ROWS_WRONG)
LEFT = ("left", (0, -7), "InvalidNumber", INTEGERS_WRONG)
LOW = ("low", (0, 9), "InvalidNumber", INTEGERS_WRONG)
WIDE = ("wide", (3, 0, 30), "InvalidNumber", INTEGERS_WRONG + [-1, -30])
HIGH = ("high", (3, 0), "InvalidNumber", INTEGERS_WRONG + [-1, -30])
SIZE = ("size", (1, 8), "InvalidNumber", INTEGERS_WRONG + [0, -1, -8])
# All of one class but the first: then it is the one that stands leftmost in the call.
PICTURES = [
    (pictures.drawn, [FLOOR, LEFT, LOW, WIDE, HIGH, SIZE]),
    (pictures.drawn_row, [ROW, LEFT, WIDE, SIZE]),
    (pictures.drawn_window, [FLOOR, SIZE, WIDE, HIGH]),
]


class LastRefusals(Refusing):
    def test_pictures(self):
        self.run_all(PICTURES, ["InvalidFloor", "InvalidRow", "InvalidNumber"])

    def test_least_numbers(self):
        for wide, high, size in ((0, 0, 1), (0, 1, 1), (1, 0, 1)):
            pictures.drawn((2, TWO), 0, 0, wide, high, size)
            pictures.drawn_window((2, TWO), size, wide, high)
            pictures.drawn_row((2, NONE, ONE), 0, wide, size)


if __name__ == "__main__":
    unittest.main()
