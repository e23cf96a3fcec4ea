"""The errors of floors.py, patches.py, returns.py and alikes.py: which ones, with which value, in which sequence."""

import copy
import unittest
from itertools import product

from quasifloors import alikes, floors, patches, returns
from tests.plain import HERE
from tests.reference import KINDS
from tests.refusing import KINDS_WRONG, NUMBERS_WRONG, POLYGONS_WRONG, Refusing
from tests.samples import SQUARE, THREE, TWO, at
from tests.samples import floors as samples

BESIDE = ((1, 0), (0, 0))
FLOOR = (2, TWO)
PATCH = (((0, 0), (1, 0)), ((1, 0), (0, 0)), ((1, 0), (1, 0)))
PLACES_WRONG = [(), ((0, 0),), (HERE[0],) * 3, ((0, 0), (0,)), ((0, 0), (0, 0, 0)), at(0, 0), [(0, 0), (0, 0)],
                ((0, 0), [0, 0]), ((True, 0), (0, 0)), ((0, 0), (0, False)), ((0, 1.0), (0, 0)), None, 0, (0, 0), "ab",
                ((0, 0), None)]
FLOORS_WRONG = [(kind, SQUARE) for kind in KINDS_WRONG] + [(3, told) for told in POLYGONS_WRONG] + [
    (), (2,), (2, SQUARE, 0), [2, SQUARE], SQUARE, None, 2, "2", (SQUARE, 2)]
RADII_WRONG = [-1, -40, True, False, None, "1", 1.0, (1,), [1], (1, 0, 1)]
ONES = (0, 0, 1)
FAR = (1, 0, 1)
BOXES_WRONG = [(), (ONES,) * 3, (ONES,) * 5, [ONES] * 4, (ONES, ONES, ONES, [0, 0, 1]), None, 0, "box", ONES,
               (FAR, ONES, ONES, FAR), (ONES, FAR, FAR, ONES), (FAR, FAR, ONES, ONES), (0, 0, 1, 1),
               ((0, 2, 1), ONES, (0, 1, 1), FAR), (ONES, (3, 0, 1), FAR, (0, 1, 1)), ((0, 0), (0, 0), (1, 0), (1, 0)),
               at(0, 0) + (at(1, 1),)] + [(ONES, ONES, FAR, told) for told in NUMBERS_WRONG] + [
               (told, ONES, FAR, FAR) for told in NUMBERS_WRONG] + [(ONES, told, FAR, FAR) for told in NUMBERS_WRONG]
# To the radius 1.
PATCHES_WRONG = [PATCH[::-1], PATCH[1:] + PATCH[:1], list(PATCH), PATCH + PATCH, PATCH[:1] * 2, (HERE,),
                 (((-1, 0), (0, 0)), HERE, ((1, 0), (0, 0))), None, 0, "patch", BESIDE, (BESIDE[0],), [BESIDE],
                 (((0, 0), (2, 0)),), (((0, 1), (0, 0)),), (((0, 0), (0, -1)),), PATCH + (((1, 1), (0, 0)),),
                 (((-2, 0), (0, 0)), BESIDE)] + [(told,) for told in PLACES_WRONG] + [
                 (((-1, 0), (0, 0)), told) for told in PLACES_WRONG]

ANY_FLOOR = ("floor", (FLOOR, (5, THREE), (3, SQUARE)), "InvalidFloor", FLOORS_WRONG)
GOOD_FLOOR = ("floor", (FLOOR,), "InvalidFloor", FLOORS_WRONG)
PLACE = ("place", (HERE, BESIDE, ((-999, 999), (7, 5))), "InvalidPlace", PLACES_WRONG)
R = ("r", (1, 0), "InvalidRadius", RADII_WRONG)
R_1 = ("r", (1,), "InvalidRadius", RADII_WRONG)
P = ("patch", (PATCH, (BESIDE,), ()), "InvalidPatch", PATCHES_WRONG)
P_COMES = ("patch", (PATCH,), "InvalidPatch", PATCHES_WRONG)

FLOORS = [
    (floors.is_place, [("told", (HERE, None, 3), None, [])]),
    (floors.is_floor, [("told", (FLOOR, None, 3), None, [])]),
    (floors.mate_of, [("kind", (2, 5), "InvalidKind", KINDS_WRONG), PLACE]),
    (floors.point_of, [PLACE]),
    (floors.added, [("one", (HERE,), "InvalidPlace", PLACES_WRONG), ("other", (BESIDE,), "InvalidPlace", PLACES_WRONG)]),
    (floors.turned_about, [PLACE]),
    (floors.has, [ANY_FLOOR, PLACE]),
    (floors.density, [ANY_FLOOR]),
    (floors.places, [GOOD_FLOOR, ("box", ((ONES, ONES, FAR, FAR), (ONES,) * 4), "InvalidBox", BOXES_WRONG)]),
    (floors.moved_floor, [ANY_FLOOR, PLACE]),
    (floors.nearest, [ANY_FLOOR, PLACE]),
]
FLOORS_SEQUENCE = ["InvalidFloor", "InvalidPlace", "InvalidKind", "InvalidBox"]
PATCHES = [
    (patches.near, [ANY_FLOOR, R]),
    (patches.patch_of, [GOOD_FLOOR, ("place", (HERE, BESIDE), "InvalidPlace", PLACES_WRONG), R]),
    (patches.part, [GOOD_FLOOR, R_1, P]),
    (patches.share, [GOOD_FLOOR, R_1, P]),
    (patches.comes, [GOOD_FLOOR, R_1, P]),
    (patches.patches, [ANY_FLOOR, R]),
    (patches.found, [GOOD_FLOOR, R_1, P_COMES]),
    (patches.how_often, [GOOD_FLOOR, R_1, ("step", (BESIDE,), "InvalidPlace", PLACES_WRONG)]),
]
PATCHES_SEQUENCE = ["InvalidFloor", "InvalidPlace", "InvalidRadius", "InvalidPatch"]
AGAIN = [
    (returns.again, [GOOD_FLOOR, R_1, P_COMES]),
    (returns.all_again, [GOOD_FLOOR, R]),
]
WITHIN = [
    (returns.is_again, [GOOD_FLOOR, R_1, P_COMES, ("far", (0, 1, 40), "far", RADII_WRONG)]),
    (returns.lonely, [GOOD_FLOOR, R_1, P_COMES, ("far", (0, 1, 40), "far", RADII_WRONG)]),
]
TWO_FLOORS = [("one", (FLOOR,), "InvalidFloor", FLOORS_WRONG), ("other", ((2, SQUARE),), "InvalidFloor", FLOORS_WRONG)]
ALIKES = [
    (alikes.is_one, TWO_FLOORS),
    (alikes.alike, TWO_FLOORS),
    (alikes.first_unlike, TWO_FLOORS + [("most", (0, 1), "InvalidRadius", RADII_WRONG)]),
    (alikes.apart, TWO_FLOORS + [("r", (0, 1), "InvalidRadius", RADII_WRONG)]),
]


class FloorRefusals(Refusing):
    def test_floors(self):
        self.run_all(FLOORS, FLOORS_SEQUENCE)

    def test_patches(self):
        self.run_all(PATCHES, PATCHES_SEQUENCE)

    def test_returns(self):
        self.run_all(AGAIN, PATCHES_SEQUENCE)

    def test_alikes(self):
        self.run_all(ALIKES, ["InvalidFloor", "InvalidRadius"])

    def test_far(self):
        # InvalidRadius of far is the last one of all.
        for function, parameters in WITHIN:
            names = [parameter[0] for parameter in parameters]
            for far in RADII_WRONG:
                self.both_ways("InvalidRadius", far, function, names, (FLOOR, 1, PATCH, far))
                self.both_ways("NoPatch", (), function, names, (FLOOR, 1, (), far))
                self.both_ways("InvalidPatch", PATCH[::-1], function, names, (FLOOR, 1, PATCH[::-1], far))
                for r in RADII_WRONG:
                    self.both_ways("InvalidRadius", r, function, names, (FLOOR, r, PATCH[::-1], far))
                    self.both_ways("InvalidFloor", (4, TWO), function, names, ((4, TWO), r, (), far))
            for wrong in FLOORS_WRONG:
                self.both_ways("InvalidFloor", wrong, function, names, (wrong, 1, PATCH, 1))
            for wrong in PATCHES_WRONG:
                self.both_ways("InvalidPatch", wrong, function, names, (FLOOR, 1, wrong, 1))
            for far in (0, 1, 40):
                function(FLOOR, 1, PATCH, far)
                function(far=far, patch=PATCH, r=1, floor=FLOOR)

    def test_not_in_floor(self):
        names = ("floor", "place", "r")
        for kind in KINDS:
            for place in (((2, 0), (0, 0)), ((0, 0), (2, 0)), ((2, 0), (2, 0)), ((-1, 0), (1, 0)), ((999, 999), (0, 0))):
                for r in (0, 1):
                    self.both_ways("NotInFloor", place, patches.patch_of, names, ((kind, TWO), place, r))
                self.both_ways("InvalidRadius", -1, patches.patch_of, names, ((kind, TWO), place, -1))
                self.both_ways("InvalidFloor", (kind, TWO[:2]), patches.patch_of, names, ((kind, TWO[:2]), place, 0))

    def test_no_patch(self):
        names = ("floor", "r", "patch")
        for kind in KINDS:
            for patch in ((), (((0, 0), (1, 0)),), (BESIDE, ((1, 0), (1, 0)))):
                for function in (patches.found, returns.again):
                    self.both_ways("NoPatch", patch, function, names, ((kind, TWO), 1, patch))
                    self.both_ways("InvalidRadius", True, function, names, ((kind, TWO), True, patch))
                for function in (returns.is_again, returns.lonely):
                    for far in (0, 5, -1):
                        self.both_ways("NoPatch", patch, function, names + ("far",), ((kind, TWO), 1, patch, far))
            for function in (patches.found, returns.again):
                self.both_ways("NoPatch", (BESIDE,), function, names, ((kind, SQUARE), 1, (BESIDE,)))
                self.both_ways("InvalidPatch", (BESIDE,), function, names, ((kind, SQUARE), 0, (BESIDE,)))

    def test_within_the_radius(self):
        names = ("floor", "r", "patch")
        for function in (patches.part, patches.share, patches.comes):
            # w is 1.41, 1.73, 1.62: within 2, and not within 1; w less 1 is within 1.
            for kind in KINDS:
                for step in (((0, 1), (0, 0)), ((0, 0), (0, -1)), ((2, 0), (-2, 0)), ((-1, 1), (0, 1))):
                    self.both_ways("InvalidPatch", (step,), function, names, ((kind, TWO), 1, (step,)))
                    function((kind, TWO), 2, (step,))
                function((kind, TWO), 1, (((-1, 1), (0, 0)),))
                function((kind, TWO), 1, (((1, -1), (-1, 0)),))
                self.both_ways("InvalidPatch", (BESIDE,), function, names, ((kind, TWO), 0, (BESIDE,)))

    def test_how_often(self):
        names = ("floor", "r", "step")
        for kind in KINDS:
            for r in (0, 1, 2):
                self.both_ways("InvalidPair", (r, HERE), patches.how_often, names, ((kind, TWO), r, HERE))
            for step in (((2, 0), (0, 0)), ((0, 0), (-2, 0)), ((0, 1), (0, 0)), ((1, 0), (0, -1)), ((1, 1), (1, 1))):
                self.both_ways("InvalidPair", (1, step), patches.how_often, names, ((kind, TWO), 1, step))
                patches.how_often((kind, TWO), 3, step)
                self.both_ways("InvalidRadius", -1, patches.how_often, names, ((kind, TWO), -1, step))
            self.both_ways("InvalidPair", (0, BESIDE), patches.how_often, names, ((kind, TWO), 0, BESIDE))
        for wrong in PLACES_WRONG:
            self.both_ways("InvalidPlace", wrong, patches.how_often, names, (FLOOR, None, wrong))

    def test_unlike_kinds(self):
        for one, other in product(KINDS, KINDS):
            if one == other:
                continue
            told = ((one, TWO), (other, TWO))
            for function, parameters in ALIKES:
                names = [parameter[0] for parameter in parameters]
                for last in (0, 1, -1, None, True):
                    self.both_ways("InvalidPair", told, function, names, told + (last,) * (len(names) - 2))
                wrong = (told[0], (other, TWO[::-1]))
                self.both_ways("InvalidFloor", wrong[1], function, names, wrong + (0,) * (len(names) - 2))

    def test_a_window_of_another_kind(self):
        # Right for 2 alone, where w is less than 8 by 5.
        odd = (at(0, 0), ((0, 1, 1), (0, 0, 1)), ((8, 0, 5), (1, 0, 100)), at(1, 1))
        floors.density((2, odd))
        for kind in (3, 5):
            self.both_ways("InvalidFloor", (kind, odd), floors.density, ("floor",), ((kind, odd),))
            self.both_ways("InvalidFloor", (kind, odd), patches.near, ("floor", "r"), ((kind, odd), 1))

    def test_a_box_of_another_kind(self):
        # From w to 8 by 5 is a box of the kind 2 alone.
        box = ((0, 1, 1), ONES, (8, 0, 5), FAR)
        floors.places((2, TWO), box)
        for kind in (3, 5):
            self.both_ways("InvalidBox", box, floors.places, ("floor", "box"), ((kind, TWO), box))

    def test_nothing_is_changed(self):
        for kind in KINDS:
            for floor in samples(kind)[:7]:
                before = copy.deepcopy(floor)
                told = patches.patches(floor, 1)
                again = copy.deepcopy(told)
                told.append(None)
                told.pop(0)
                self.assertEqual(patches.patches(floor, 1), again)
                for function in (patches.near, lambda floor, r: floors.places(floor, (ONES, ONES, (9, 0, 1), (9, 0, 1)))):
                    found = function(floor, 1)
                    kept = list(found)
                    found.clear()
                    self.assertEqual(function(floor, 1), kept)
                self.assertEqual(floor, before)


if __name__ == "__main__":
    unittest.main()
