"""The whole program: what each function leaves as it is, and what it returns being taken by the others."""

import copy
import unittest

from quasifloors import alikes, errors, fields, floors, patches, pictures, polygons, readers, returns, rows, rules, stretches
from quasifloors import texts
from quasifloors.consoles import Console
from tests import stretching
from tests.plain import HERE
from tests.reference import KINDS
from tests.samples import FIVE, HALVES, INNER, SQUARE, THREE, TWO, at
from tests.test_document import INTERFACE

NONE, ONE = (0, 0, 1), (1, 0, 1)
P, Q = (-3, 2, 7), (1, 1, 2)
STEP = ((1, 0), (0, 0))


def calls(kind):
    """Each function with what is to be handed in."""
    floor, other = (kind, TWO), (kind, HALVES)
    unit = stretching.GROWING[kind]
    matrix = stretching.matrices(kind)[4]
    patch, share = patches.patches(floor, 1)[0]
    row = (kind, NONE, ONE)
    box = ((-5, 0, 1), (-5, 0, 1), (5, 0, 1), (5, 0, 1))
    told = rules.rule(floor, unit, 0)
    word = (0, 1)
    return {
        fields: {"is_number": [P], "number": [2, 4, -6], "plus": [P, Q], "minus": [P, Q], "scaled": [P, 6],
                 "times": [kind, P, Q], "by": [kind, P, Q], "mate": [kind, P], "norm": [kind, P], "sign": [kind, P],
                 "compared": [kind, P, Q], "floor_of": [kind, P], "about": [kind, P, 5], "unit": [kind],
                 "stretch_unit": [kind]},
        polygons: {"is_polygon": [kind, TWO], "polygon": [kind, list(FIVE) + [at(0, 0)]], "area": [kind, FIVE],
                   "is_in": [kind, FIVE, at(0, 0)], "moved": [kind, FIVE, at(1, 2)], "cut": [kind, FIVE, at(0, 0), at(1, 2)],
                   "met": [kind, FIVE, TWO], "less": [kind, FIVE, TWO], "sum_of": [kind, [FIVE, TWO]]},
        floors: {"is_place": [STEP], "is_floor": [floor], "mate_of": [kind, STEP], "point_of": [STEP], "added": [STEP, STEP],
                 "turned_about": [STEP], "has": [floor, STEP], "density": [floor], "places": [floor, box],
                 "moved_floor": [floor, STEP], "nearest": [floor, STEP]},
        patches: {"near": [floor, 1], "patch_of": [floor, HERE, 1], "part": [floor, 1, patch], "share": [floor, 1, patch],
                  "comes": [floor, 1, patch], "patches": [floor, 1], "found": [floor, 1, patch], "how_often": [floor, 1, STEP]},
        returns: {"again": [floor, 1, patch], "is_again": [floor, 1, patch, 2], "lonely": [floor, 1, patch, 0],
                  "all_again": [floor, 1]},
        alikes: {"is_one": [floor, other], "alike": [floor, floor], "first_unlike": [floor, other, 1],
                 "apart": [floor, other, 1]},
        stretches: {"is_matrix": [kind, matrix], "is_unit": [kind, unit], "taken": [kind, matrix, STEP],
                    "undone": [kind, matrix], "behind": [kind, matrix, matrix], "taken_floor": [floor, matrix],
                    "stretched": [floor, unit], "lies_within": [other, floor], "least_power": [other, floor, 3]},
        rules: {"rule": [floor, unit, 1], "grows": [floor, unit, 1], "ungrown": [other, unit, 1],
                "grown": [floor, unit, 1, (HERE, STEP, HERE)], "is_rule": [floor, unit, 0, told]},
        rows: {"is_row": [row], "is_member": [row, (0, 0)], "members": [row, P, (9, 0, 1)], "next_member": [row, (0, 0)],
               "last_member": [row, (0, 0)], "gaps": [row], "word": [row, (0, 0), 5], "word_part": [row, word],
               "words": [row, 3], "found_word": [row, word], "stretched_row": [row, unit], "fillings": [row, unit],
               "grows_itself": [row, unit], "grown_word": [(5, NONE, ONE), (1, 1), word]},
        pictures: {"drawn": [floor, -2, -2, 5, 5, 2], "drawn_row": [row, -2, 9, 2], "drawn_window": [floor, 2, 5, 5]},
        texts: {"show_number": [P], "show_whole": [(1, 2)], "show_point": [(P, Q)], "show_place": [STEP],
                "show_places": [[HERE, STEP]], "show_floor": [floor], "show_row": [row], "show_word": [[0, 1]]},
        readers: {"read_number": ["1/2"], "read_point": ["1/2 0"], "read_place": ["1 0"], "read_places": ["1 0, 0 1"],
                  "read_floor": [texts.show_floor(floor)], "read_row": ["row 5 0 1"], "read_word": ["0 1"]},
    }


def each_call(kind):
    for module, told in calls(kind).items():
        for name, values in told.items():
            yield getattr(module, name), values


def spoil(found):
    """Change every list that there is, at every depth."""
    if isinstance(found, (list, tuple)):
        for part in found:
            spoil(part)
    if isinstance(found, list):
        found.append("spoilt")
        found.reverse()


def kinds_of(found):
    """The kinds of values, at every depth."""
    if isinstance(found, (list, tuple)):
        return type(found), [kinds_of(part) for part in found]
    return type(found)


class Whole(unittest.TestCase):
    def test_all_functions_are_asked(self):
        asked = {module: set(told) for module, told in calls(2).items()}
        self.assertEqual(asked, {module: set(names) for module, names in INTERFACE})

    def test_nothing_handed_in_is_changed(self):
        for kind in KINDS:
            for function, values in each_call(kind):
                before = copy.deepcopy(values)
                function(*values)
                self.assertEqual(values, before, function.__name__)
                self.assertEqual(kinds_of(values), kinds_of(before), function.__name__)

    def test_what_is_returned_is_new(self):
        for kind in KINDS:
            for function, values in each_call(kind):
                found = function(*values)
                before = copy.deepcopy(found)
                spoil(found)
                again = function(*values)
                self.assertEqual(again, before, function.__name__)
                self.assertEqual(kinds_of(again), kinds_of(before), function.__name__)

    def test_no_list_handed_in_is_kept(self):
        for kind in KINDS:
            for function, values in each_call(kind):
                lists = [value for value in values if isinstance(value, list)]
                if not lists:
                    continue
                found = function(*values)
                before = copy.deepcopy(found)
                for value in lists:
                    spoil(value)
                self.assertEqual(found, before, function.__name__)

    def test_no_tuple_has_a_list_in_it(self):
        def check(found, within):
            if isinstance(found, (list, tuple)):
                self.assertFalse(within and isinstance(found, list))
                for part in found:
                    check(part, within or isinstance(found, tuple))

        for kind in KINDS:
            for function, values in each_call(kind):
                check(function(*values), False)

    def test_whatever_was_asked_before(self):
        for kind in KINDS:
            expected = [function(*values) for function, values in each_call(kind)]
            for other in KINDS:
                for function, values in each_call(other):
                    for k in range(len(values)):
                        wrong = values[:k] + [None] + values[k + 1:]
                        try:
                            function(*wrong)
                        except (errors.FloorError, TypeError, AttributeError):
                            continue
            told = list(each_call(kind))
            self.assertEqual([function(*values) for function, values in told[::-1]][::-1], expected)

    def test_integers_are_no_bools(self):
        def check(found):
            if isinstance(found, (list, tuple)):
                for part in found:
                    self.assertIsNot(type(part), bool)
                    check(part)

        for kind in KINDS:
            for function, values in each_call(kind):
                check(function(*values))


class Together(unittest.TestCase):
    """What one function returns is taken by the others."""

    def test_floors(self):
        for kind in KINDS:
            unit = fields.stretch_unit(kind)[:2]
            self.assertTrue(stretches.is_unit(kind, unit))
            for window in (THREE, INNER, HALVES):
                floor = (kind, polygons.polygon(kind, list(window)))
                small = stretches.stretched(floor, unit)
                matrix = stretches.behind(kind, stretches.undone(kind, stretching.matrices(kind)[7]), stretching.matrices(kind)[2])
                bent = stretches.taken_floor(floor, matrix)
                for there in (floor, small, bent, floors.moved_floor(bent, ((5, -3), (2, 2)))):
                    self.assertTrue(floors.is_floor(there))
                    self.assertEqual(readers.read_floor(texts.show_floor(there)), there)
                    place = patches.found(there, 0, ())
                    self.assertTrue(floors.has(there, place))
                    self.assertEqual(rules.is_rule(there, unit, 0, rules.rule(there, unit, 0)), True)
                    self.assertEqual(rules.grown(there, unit, 0, ()), ())
                    self.assertEqual(patches.patch_of(there, place, 0), ())
                self.assertTrue(stretches.lies_within(small, floor) or not polygons.is_in(kind, window, at(0, 0)))
                back = stretches.taken_floor(bent, stretches.undone(kind, matrix))
                self.assertTrue(alikes.is_one(back, floor))
                self.assertEqual(floors.density(bent), fields.times(kind, floors.density(floor), self.determinant(kind, matrix)))

    def determinant(self, kind, matrix):
        p, t = matrix[0][0] + (1,), matrix[1][1] + (1,)
        return fields.mate(kind, fields.times(kind, p, t))

    def test_patches_of_many_sorts(self):
        for kind in KINDS:
            floor = stretches.taken_floor((kind, TWO), (((1, 0), (1, 0)), ((0, 0), (1, 0))))
            unit = stretching.GROWING[kind]
            total = NONE
            for (patch, share), (other, steps) in zip(patches.patches(floor, 1), rules.rule(floor, unit, 1)):
                self.assertEqual(patch, other)
                total = fields.plus(total, share)
                self.assertEqual(readers.read_places(texts.show_places(patch)), patch)
                self.assertEqual(readers.read_places(texts.show_places(steps)), steps)
                place = patches.found(floor, 1, patch)
                there = rules.grown(floor, unit, 1, (place,))
                self.assertEqual(len(there), len(steps))
                self.assertTrue(all([floors.has(floor, told) for told in there]))
            self.assertEqual(total, ONE)

    def test_rows(self):
        for kind in KINDS:
            unit = stretching.GROWING[kind]
            row = (kind, (-1, 0, 1), (5, 0, 7))
            small = rows.stretched_row(row, unit)
            self.assertEqual(readers.read_row(texts.show_row(small)), small)
            for gap, share, part in rows.gaps(small):
                self.assertTrue(rows.is_row((kind,) + part))
                self.assertEqual(fields.number(*fields.by(kind, fields.minus(part[1], part[0]),
                                                          fields.minus(small[2], small[1]))), share)
            for words in rows.fillings(row, unit):
                for word in words:
                    self.assertEqual(readers.read_word(texts.show_word(word)), word)
                    self.assertEqual(rows.word(row, rows.found_word(row, word), len(word)), word)
            # A floor whose window is a great square has in each number the members of a row.
            floor = (kind, INNER)
            line = (kind, (-1, 0, 1), ONE)
            there = rows.members(line, NONE, (6, 0, 1))
            self.assertEqual(floors.places(floor, (NONE, NONE, (6, 0, 1), NONE)), sorted([(pair, (0, 0)) for pair in there]))
            self.assertEqual(pictures.drawn(floor, 0, 0, 12, 1, 2), [pictures.drawn_row(line, 0, 12, 2)])

    def test_consoles(self):
        for kind in KINDS:
            told = Console()
            for window in (SQUARE, TWO, THREE):
                floor = (kind, window)
                told.order("floor a\n" + texts.show_floor(floor))
                self.assertEqual(told.floor("a"), floor)
                self.assertEqual(told.order("show a"), texts.show_floor(floor))
                for line in told.order("patches a 1").split("\n"):
                    share, patch = line.split(" : ")
                    self.assertEqual(readers.read_number(share), patches.share(floor, 1, readers.read_places(patch)))
            told.keep_row("b", (kind, NONE, ONE))
            for line in told.order("words b 5").split("\n"):
                share, word = line.split(" : ")
                self.assertIn((readers.read_word(word), readers.read_number(share)), rows.words((kind, NONE, ONE), 5))
            self.assertIsNotNone(told.floor("a"))

    def test_what_a_console_returns_is_not_kept(self):
        told = Console()
        floor = readers.read_floor(texts.show_floor((2, TWO)))
        told.keep_floor("a", floor)
        found = told.names()
        spoil(found)
        self.assertEqual(told.names(), [("a", "floor")])
        self.assertEqual(told.floor("a"), (2, TWO))


if __name__ == "__main__":
    unittest.main()
