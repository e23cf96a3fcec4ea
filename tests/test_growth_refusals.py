"""The errors of stretches.py, rules.py and rows.py: which ones, with which value, in which sequence."""

import copy
import unittest
from itertools import product

from quasifloors import rows, rules, stretches
from tests import stretching
from tests.plain import HERE
from tests.reference import KINDS
from tests.refusing import KINDS_WRONG, NUMBERS_WRONG, Refusing
from tests.samples import INNER, SQUARE, THREE, TWO
from tests.test_floor_refusals import FLOORS_WRONG, PLACES_WRONG, RADII_WRONG

NONE, ONE = (0, 0, 1), (1, 0, 1)
FLOOR = (2, TWO)
ZERO = (0, 0)
# Of the kind 2. Norms of 2, 1 with a mate below 0, 0; and none that is in its form.
PAIRS_WRONG = [(2, 1), (-1, 1), (-3, -2), (-1, 0), (2, 0), ZERO, (True, 0), (3, False), (1,), (1, 0, 1), [1, 0], 1, None,
               "10", ((1, 0), ZERO), (1.0, 0)]
UNITS_WRONG = PAIRS_WRONG + [(1, 1), (1, -1), (-1, -1), (-3, 2), (0, 1), (0, -1), ()]
GROWING_WRONG = UNITS_WRONG + [(1, 0), (3, -2), (17, -12)]
SHEAR = (((3, 2), (1, 0)), (ZERO, (1, 0)))
FLIP = (((-1, -1), ZERO), (ZERO, (1, -1)))
MATRICES_WRONG = [((p, ZERO), (ZERO, (1, 0))) for p in PAIRS_WRONG] + [(((1, 0), ZERO), (ZERO, t)) for t in PAIRS_WRONG] + [
    ((SHEAR[0]), (q, (1, 0))) for q in [(1, 0), (0, 1), (False, 0), [0, 0], 0, None]] + [
    (((1, 0), q), SHEAR[1]) for q in [(True, 0), (1,), (1, 0, 1), [1, 0], 1, None]] + [
    (), SHEAR[:1], SHEAR + SHEAR[:1], list(SHEAR), (list(SHEAR[0]), SHEAR[1]), None, 3, "matrix", SHEAR[0], (1, 0)]
RULES_WRONG = [[], None, 3, "rule", [((), (HERE,))], ((),), (((),),), (((), (), ()),), (((), [HERE]),), (([], ()),),
               ([(), ()],), (((), (HERE,)), None), (((), HERE),), ((HERE, ()),), (HERE,)] + [
               (((), (HERE, told)),) for told in PLACES_WRONG] + [(((told,), ()),) for told in PLACES_WRONG]
ROW = (5, NONE, ONE)
ROWS_WRONG = [(kind, NONE, ONE) for kind in KINDS_WRONG] + [(5, told, (9, 0, 1)) for told in NUMBERS_WRONG] + [
    (5, NONE, told) for told in NUMBERS_WRONG] + [(5, ONE, NONE), (5, ONE, ONE), (5, (0, 1, 1), (8, 0, 5)), (5, NONE),
                                                  (5, NONE, ONE, ONE), list(ROW), (), None, 5, "row", (NONE, ONE, 5)]
MEMBERS_WRONG = [(1, 0), (0, 1), (-1, 0), (3, 2), (0,), (0, 0, 0), (0, 0, 1), [0, 0], (False, 0), (0, False), (0.0, 0), None,
                 0, "00", HERE, (), (0, None)]
WORDS_WRONG = [(2,), (-1,), (0, 1, 2), (0, -1), (0, True), (False,), [0, 1], [], None, 0, "01", ((0,),), (0, None), (0.0,),
               {0: 1}, (0, "1")]
# The units of the kind 5 are asked for.
FIVES_WRONG = [(1, 0), (2, -1), (0, 1), (0, -1), (1, -1), (-1, -1), (-2, 1), (2, 0), ZERO, (2, 1), (True, 1), (1, True), (1,),
               (1, 1, 1), [1, 1], None, 1, "11", ()]

ANY_FLOOR = ("floor", (FLOOR, (2, SQUARE)), "InvalidFloor", FLOORS_WRONG)
KIND = ("kind", (2,), "InvalidKind", KINDS_WRONG)
MATRIX = ("matrix", (SHEAR, FLIP), "InvalidMatrix", MATRICES_WRONG)
TWO_FLOORS = [("one", (FLOOR,), "InvalidFloor", FLOORS_WRONG), ("other", ((2, SQUARE),), "InvalidFloor", FLOORS_WRONG)]
STRETCHES = [
    (stretches.is_matrix, [KIND, ("told", (SHEAR, None, 3), None, [])]),
    (stretches.is_unit, [KIND, ("told", ((1, 0), None, 3), None, [])]),
    (stretches.taken, [KIND, MATRIX, ("place", (HERE, ((-999, 999), (7, 5))), "InvalidPlace", PLACES_WRONG)]),
    (stretches.undone, [KIND, MATRIX]),
    (stretches.behind, [KIND, ("one", (SHEAR, FLIP), "InvalidMatrix", MATRICES_WRONG),
                        ("other", (SHEAR, FLIP), "InvalidMatrix", MATRICES_WRONG)]),
    (stretches.taken_floor, [ANY_FLOOR, MATRIX]),
    (stretches.stretched, [ANY_FLOOR, ("unit", ((3, 2), (1, 0), (3, -2)), "InvalidUnit", UNITS_WRONG)]),
    (stretches.lies_within, TWO_FLOORS),
    (stretches.least_power, TWO_FLOORS + [("most", (0, 1, 8), "InvalidRadius", RADII_WRONG)]),
]
STRETCHES_SEQUENCE = ["InvalidKind", "InvalidFloor", "InvalidMatrix", "InvalidUnit", "InvalidPlace", "InvalidRadius"]
GROWTH = [ANY_FLOOR, ("unit", ((3, 2),), "InvalidUnit", GROWING_WRONG), ("r", (0, 1), "InvalidRadius", RADII_WRONG)]
RULES = [
    (rules.rule, GROWTH),
    (rules.grows, GROWTH),
    (rules.ungrown, GROWTH),
    (rules.grown, GROWTH + [("some", ((HERE,), (), (HERE, HERE)), None, [])]),
    (rules.is_rule, GROWTH + [("told", ((), (((), (HERE,)),), ((((HERE,), ()),) * 2)), "InvalidRule", RULES_WRONG)]),
]
ANY_ROW = ("row", (ROW, (5, (-1, 0, 1), ONE)), "InvalidRow", ROWS_WRONG)
UNIT = ("unit", ((1, 1), (2, 3)), "InvalidUnit", FIVES_WRONG)
MEMBER = ("member", (ZERO, (1, 1)), "InvalidMember", MEMBERS_WRONG)
LENGTH = ("n", (0, 1, 20), "InvalidRadius", RADII_WRONG)
WORD = ("word", ((), (0, 1), (1,)), "InvalidWord", WORDS_WRONG)
ONE_ROW = ("row", (ROW,), "InvalidRow", ROWS_WRONG)
ROWS = [
    (rows.is_row, [("told", (ROW, None, 3), None, [])]),
    (rows.is_member, [ANY_ROW, ("member", (ZERO, None, 3, [0, 0]), None, [])]),
    (rows.members, [ANY_ROW, ("left", (NONE, (-9, 1, 2)), "InvalidNumber", NUMBERS_WRONG),
                    ("right", (ONE, (9, 0, 1)), "InvalidNumber", NUMBERS_WRONG)]),
    (rows.next_member, [ONE_ROW, MEMBER]),
    (rows.last_member, [ONE_ROW, MEMBER]),
    (rows.gaps, [ANY_ROW]),
    (rows.word, [ONE_ROW, MEMBER, LENGTH]),
    (rows.word_part, [ONE_ROW, WORD]),
    (rows.words, [ANY_ROW, LENGTH]),
    (rows.found_word, [ONE_ROW, WORD]),
    (rows.stretched_row, [ANY_ROW, UNIT]),
    (rows.fillings, [ANY_ROW, UNIT]),
    (rows.grows_itself, [ANY_ROW, UNIT]),
    (rows.grown_word, [ONE_ROW, UNIT, WORD]),
]
ROWS_SEQUENCE = ["InvalidRow", "InvalidUnit", "InvalidNumber", "InvalidMember", "InvalidRadius", "InvalidWord"]


class GrowthRefusals(Refusing):
    def test_stretches(self):
        self.run_all(STRETCHES, STRETCHES_SEQUENCE)

    def test_rules(self):
        self.run_all(RULES, ["InvalidFloor", "InvalidUnit", "InvalidRadius", "InvalidRule"])

    def test_rows(self):
        self.run_all(ROWS, ROWS_SEQUENCE)

    def test_matrices_and_units_of_other_kinds(self):
        for kind in KINDS:
            for other in KINDS:
                for unit in stretching.UNITS[other][1:]:
                    if kind == other or unit in stretching.GOOD[kind]:
                        continue
                    self.both_ways("InvalidUnit", unit, stretches.stretched, ("floor", "unit"), ((kind, TWO), unit))
                    self.both_ways("InvalidUnit", unit, rules.rule, ("floor", "unit", "r"), ((kind, TWO), unit, 0))
                    self.both_ways("InvalidUnit", unit, rows.stretched_row, ("row", "unit"), ((kind, NONE, ONE), unit))

        for kind, unit in ((3, (3, 2)), (5, (3, 2)), (2, (2, 1)), (5, (2, 1)), (2, (1, 1)), (3, (1, 1))):
            matrix = stretching.scaled_matrix(unit)
            self.both_ways("InvalidMatrix", matrix, stretches.undone, ("kind", "matrix"), (kind, matrix))

    def test_units_above_1(self):
        for kind in KINDS:
            back = {2: (3, -2), 3: (2, -1), 5: (2, -1)}[kind]
            for unit in ((1, 0), back):
                stretches.stretched((kind, TWO), unit)
                for function in (rules.rule, rules.grows, rules.ungrown):
                    self.both_ways("InvalidUnit", unit, function, ("floor", "unit", "r"), ((kind, TWO), unit, 0))
                for function in (rows.stretched_row, rows.fillings, rows.grows_itself):
                    self.both_ways("InvalidUnit", unit, function, ("row", "unit"), ((kind, NONE, ONE), unit))

    def test_unlike_kinds(self):
        for one, other in product(KINDS, KINDS):
            if one == other:
                continue
            told = ((one, TWO), (other, TWO))
            self.both_ways("InvalidPair", told, stretches.lies_within, ("one", "other"), told)
            for most in (0, 8, -1, None, True):
                self.both_ways("InvalidPair", told, stretches.least_power, ("one", "other", "most"), told + (most,))
            wrong = (told[0], (other, TWO[::-1]))
            self.both_ways("InvalidFloor", wrong[1], stretches.lies_within, ("one", "other"), wrong)

    def test_not_in_floor(self):
        names = ("floor", "unit", "r", "some")
        out, far = ((2, 0), (0, 0)), ((0, 0), (-1, 0))
        for kind in KINDS:
            floor, unit = (kind, TWO), stretching.GROWING[kind]
            for some, place in [((out,), out), ((HERE, far, out), far), ((HERE, HERE, out, far), out), ((out, None), out)]:
                self.both_ways("NotInFloor", place, rules.grown, names, (floor, unit, 1, some))
                self.both_ways("InvalidRadius", -1, rules.grown, names, (floor, unit, -1, some))
                self.both_ways("InvalidUnit", (1, 0), rules.grown, names, (floor, (1, 0), -1, some))
                self.both_ways("InvalidFloor", (kind, ()), rules.grown, names, ((kind, ()), (1, 0), -1, some))
            for wrong in PLACES_WRONG:
                self.both_ways("NotInFloor", wrong, rules.grown, names, (floor, unit, 0, (HERE, wrong)))

    def test_left_above_right(self):
        names = ("row", "left", "right")
        for kind in KINDS:
            for left, right in [(ONE, NONE), ((0, 1, 1), ONE), ((0, 0, 1), (-1, 0, 12))]:
                self.both_ways("InvalidPair", (left, right), rows.members, names, ((kind, NONE, ONE), left, right))
                self.both_ways("InvalidRow", (kind, ONE, ONE), rows.members, names, ((kind, ONE, ONE), left, right))
                self.both_ways("InvalidNumber", (0, 0), rows.members, names, ((kind, NONE, ONE), left, (0, 0)))
        # By kind: w is less than 8 by 5 in one of them alone.
        self.assertEqual(rows.members((2, NONE, ONE), (0, 1, 1), (8, 0, 5)), [])
        self.both_ways("InvalidPair", ((0, 1, 1), (8, 0, 5)), rows.members, names, (ROW, (0, 1, 1), (8, 0, 5)))

    def test_no_word(self):
        for kind in KINDS:
            for low, high in [(NONE, ONE), ((-1, 0, 1), (3, 0, 5))]:
                row = (kind, low, high)
                many = len(rows.gaps(row))
                told = dict(rows.words(row, 3))
                for word in product(range(many), repeat=3):
                    if word in told:
                        rows.found_word(row, word)
                    else:
                        self.both_ways("NoWord", word, rows.found_word, ("row", "word"), (row, word))
                self.both_ways("InvalidWord", (many,), rows.found_word, ("row", "word"), (row, (many,)))
                self.both_ways("InvalidWord", (many,), rows.word_part, ("row", "word"), (row, (many,)))

    def test_not_within(self):
        for kind in KINDS:
            unit = stretching.GROWING[kind]
            for low, high in [((1, 0, 2), ONE), ((-1, 0, 1), (-1, 0, 9)), ((1, 0, 999), (2, 0, 1))]:
                row = (kind, low, high)
                self.both_ways("NotWithin", row, rows.fillings, ("row", "unit"), (row, unit))
                self.assertIs(rows.grows_itself(row, unit), False)
                for word in ((), (0,), (1, 0, 1)):
                    self.both_ways("NotWithin", row, rows.grown_word, ("row", "unit", "word"), (row, unit, word))
                self.both_ways("InvalidWord", (7,), rows.grown_word, ("row", "unit", "word"), (row, unit, (7,)))
                self.both_ways("InvalidUnit", (1, 0), rows.fillings, ("row", "unit"), (row, (1, 0)))
            # Within, and with several fillings of a gap.
            row = (kind, (-1, 0, 1), (5, 0, 7))
            self.assertGreater(max([len(told) for told in rows.fillings(row, unit)]), 1)
            self.both_ways("NotWithin", row, rows.grown_word, ("row", "unit", "word"), (row, unit, (0, 1)))

    def test_nothing_is_changed(self):
        for kind in KINDS:
            unit = stretching.GROWING[kind]
            for window in (TWO, THREE, INNER):
                told = ((kind, window), unit, 1)
                before = copy.deepcopy(told)
                found = rules.rule(*told)
                rules.grows(*told)
                self.assertEqual(rules.rule(*told), found)
                self.assertEqual(told, before)


if __name__ == "__main__":
    unittest.main()
