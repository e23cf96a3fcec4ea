"""Wrong values of all sorts, and how the tests of errors hand them in."""

import copy
import unittest
from itertools import product

from quasifloors import errors
from tests.samples import SQUARE, at

KINDS_WRONG = [0, 1, 4, -2, 6, 50, True, False, None, "2", (2,), [2], 2.0, b"2"]
NUMBERS_WRONG = [(2, 0, 2), (1, 1, 0), (0, 0, 2), (1, 0, -1), (1, 0), (1, 0, 1, 0), (), (True, 0, 1), (1, False, 1),
                 (1, 0, True), [1, 0, 1], (1.0, 0, 1), 1, None, "1", ((1, 0, 1),)]
INTEGERS_WRONG = [True, False, None, "1", 1.0, (1,), [1], (1, 0, 1)]
POINTS_WRONG = [((0, 0, 1),), (), at(0, 0) + ((0, 0, 1),), list(at(0, 0)), ((2, 0, 2), (0, 0, 1)),
                ((0, 0, 1), (0, 0, -1)), ((0, 0, 1), (True, 0, 1)), (0, 0), ((0, 0), (0, 0)), None, 0, "ab", (0, 0, 1),
                ((0, 0, 1), [0, 0, 1])]
POLYGONS_WRONG = [(), SQUARE[:2], SQUARE[::-1], SQUARE[1:] + SQUARE[:1], SQUARE + SQUARE[:1], list(SQUARE), None, 3,
                  (at(0, 0), at(1, 0), at(2, 0)), (at(0, 0), at(2, 0), at(1, 1), at(1, 1)), SQUARE[0], (1, 2, 3),
                  SQUARE[:3] + (((0, 0, 2), (1, 0, 1)),), [SQUARE], (SQUARE,)]


class Refusing(unittest.TestCase):
    """What all tests of errors do: call a function by position and by name, and look at what it raises."""

    def refused(self, name, value, function, /, *told, **named):
        before = copy.deepcopy((told, named))
        with self.assertRaises(errors.FloorError) as seen:
            function(*told, **named)
        self.assertIs(type(seen.exception), getattr(errors, name), (function.__name__, told, named))
        self.assertIs(type(seen.exception.value), type(value))
        self.assertEqual(seen.exception.value, value)
        self.assertEqual((told, named), before)

    def both_ways(self, name, value, function, names, told):
        self.refused(name, value, function, *told)
        self.refused(name, value, function, **dict(reversed(list(zip(names, told)))))

    def expected(self, parameters, told, wrong, sequence):
        due = [(sequence.index(parameter[2]), k) for k, parameter in enumerate(parameters) if wrong[k]]
        place, k = min(due)
        return sequence[place], told[k]

    def run_all(self, functions, sequence):
        for function, parameters in functions:
            names = [parameter[0] for parameter in parameters]
            rights = [parameter[1] for parameter in parameters]
            for told in product(*rights):
                function(*told)
                function(**dict(zip(names, told)))
            for wrong in product((False, True), repeat=len(parameters)):
                if not any(wrong) or any(bad and not parameter[3] for bad, parameter in zip(wrong, parameters)):
                    continue
                longest = max(len(parameter[3]) for bad, parameter in zip(wrong, parameters) if bad)
                for turn in range(longest):
                    # All that may be wrong is so by turns, each beside others of its sort.
                    told = [parameter[3][(turn + 3 * k) % len(parameter[3])] if bad else parameter[1][0]
                            for k, (bad, parameter) in enumerate(zip(wrong, parameters))]
                    name, value = self.expected(parameters, told, wrong, sequence)
                    self.both_ways(name, value, function, names, told)
