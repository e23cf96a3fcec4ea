"""The examples and the interface of the document, and the examples of README.md."""

import doctest
import inspect
import unittest
from pathlib import Path

from quasifloors import alikes, consoles, errors, fields, floors, patches, pictures, polygons, readers, returns, rows, rules
from quasifloors import stretches, texts

TOP = Path(__file__).resolve().parent.parent

FIELDS = {"is_number": "told", "number": "a b n", "plus": "p q", "minus": "p q", "scaled": "p k", "times": "kind p q",
          "by": "kind p q", "mate": "kind p", "norm": "kind p", "sign": "kind p", "compared": "kind p q",
          "floor_of": "kind p", "about": "kind p n", "unit": "kind", "stretch_unit": "kind"}
POLYGONS = {"is_polygon": "kind told", "polygon": "kind points", "area": "kind polygon",
            "is_in": "kind polygon point", "moved": "kind polygon point", "cut": "kind polygon one other",
            "met": "kind one other", "less": "kind one other", "sum_of": "kind polygons"}
FLOORS = {"is_place": "told", "is_floor": "told", "mate_of": "kind place", "point_of": "place", "added": "one other",
          "turned_about": "place", "has": "floor place", "density": "floor", "places": "floor box",
          "moved_floor": "floor place", "nearest": "floor place"}
PATCHES = {"near": "floor r", "patch_of": "floor place r", "part": "floor r patch", "share": "floor r patch",
           "comes": "floor r patch", "patches": "floor r", "found": "floor r patch", "how_often": "floor r step"}
RETURNS = {"again": "floor r patch", "is_again": "floor r patch far", "lonely": "floor r patch far",
           "all_again": "floor r"}
ALIKES = {"is_one": "one other", "alike": "one other", "first_unlike": "one other most", "apart": "one other r"}
STRETCHES = {"is_matrix": "kind told", "is_unit": "kind told", "taken": "kind matrix place", "undone": "kind matrix",
             "behind": "kind one other", "taken_floor": "floor matrix", "stretched": "floor unit",
             "lies_within": "one other", "least_power": "one other most"}
RULES = {"rule": "floor unit r", "grows": "floor unit r", "ungrown": "floor unit r", "grown": "floor unit r some",
         "is_rule": "floor unit r told"}
ROWS = {"is_row": "told", "is_member": "row member", "members": "row left right", "next_member": "row member",
        "last_member": "row member", "gaps": "row", "word": "row member n", "word_part": "row word", "words": "row n",
        "found_word": "row word", "stretched_row": "row unit", "fillings": "row unit", "grows_itself": "row unit",
        "grown_word": "row unit word"}
PICTURES = {"drawn": "floor left low wide high size", "drawn_row": "row left wide size",
            "drawn_window": "floor size wide high"}
TEXTS = {"show_number": "p", "show_whole": "pair", "show_point": "point", "show_place": "place", "show_places": "places",
         "show_floor": "floor", "show_row": "row", "show_word": "word"}
READERS = {"read_number": "text", "read_point": "text", "read_place": "text", "read_places": "text", "read_floor": "text",
           "read_row": "text", "read_word": "text"}
CONSOLE = {"keep_floor": "name floor", "keep_row": "name row", "drop": "name", "undo": "", "floor": "name", "row": "name",
           "names": "", "order": "text"}
INTERFACE = [(fields, FIELDS), (polygons, POLYGONS), (floors, FLOORS), (patches, PATCHES), (returns, RETURNS),
             (alikes, ALIKES), (stretches, STRETCHES), (rules, RULES), (rows, ROWS), (pictures, PICTURES), (texts, TEXTS),
             (readers, READERS)]

EXAMPLES = """
>>> from quasifloors.fields import about, by, compared, floor_of, mate, norm, number, sign, stretch_unit, times, unit
>>> [number(2, 4, -6), times(5, (0, 1, 1), (0, 1, 1)), by(2, (1, 0, 1), (1, 1, 1)), mate(5, (0, 1, 1)), norm(3, (2, 1, 1))]
[(-1, -2, 3), (1, 1, 1), (-1, 1, 1), (1, -1, 1), (1, 0, 1)]
>>> [sign(2, (3, -2, 1)), compared(5, (0, 1, 1), (8, 0, 5)), floor_of(3, (0, 2, 1)), about(2, (0, 1, 1), 3), unit(5), stretch_unit(2)]
[1, 1, 3, 1414, (0, 1, 1), (3, 2, 1)]
>>> from quasifloors.polygons import area, cut, is_in, less, met, polygon, sum_of
>>> def at(x, y): return ((x, 0, 1), (y, 0, 1))
>>> square = polygon(2, [at(0, 0), at(1, 0), at(1, 1), at(0, 1)])
>>> [square, area(2, square), is_in(2, square, at(0, 0)), is_in(2, square, at(1, 0)), is_in(2, square, at(0, 1))]
[(((0, 0, 1), (0, 0, 1)), ((1, 0, 1), (0, 0, 1)), ((1, 0, 1), (1, 0, 1)), ((0, 0, 1), (1, 0, 1))), (1, 0, 1), True, False, False]
>>> half = ((0, 1, 2), (0, 0, 1))
>>> [area(2, part) for part in cut(2, square, half, ((0, 1, 2), (1, 0, 1)))]
[(0, 1, 2), (2, -1, 2)]
>>> from quasifloors.floors import density, has, mate_of, places
>>> floor = (2, square)
>>> here = ((0, 0), (0, 0))
>>> [has(floor, here), has(floor, ((1, 0), (0, 0))), mate_of(2, ((1, 1), (0, 2))), density(floor)]
[True, False, ((1, -1, 1), (0, -2, 1)), (1, 0, 8)]
>>> places(floor, ((0, 0, 1), (0, 0, 1), (0, 0, 1), (4, 0, 1)))
[((0, 0), (0, 0)), ((0, 0), (2, 1))]
>>> from quasifloors.patches import comes, how_often, near, patch_of, patches
>>> big = (2, polygon(2, [at(0, 0), at(2, 0), at(2, 2), at(0, 2)]))
>>> [len(near(big, 1)), len(patches(big, 1)), near(floor, 2), how_often(big, 1, ((1, 0), (0, 0)))]
[8, 4, [], (1, 0, 2)]
>>> patch = (((0, 0), (1, 0)), ((1, 0), (0, 0)), ((1, 0), (1, 0)))
>>> [patch_of(big, here, 1) == patch, patches(big, 1)[-1] == (patch, (1, 0, 4)), comes(big, 1, ())]
[True, True, False]
>>> from quasifloors.returns import again, is_again
>>> [again(big, 1, patch), is_again(big, 1, patch, 0)]
[1, False]
>>> from quasifloors.alikes import alike, apart, first_unlike, is_one
>>> from quasifloors.floors import moved_floor
>>> [is_one(floor, floor), alike(floor, moved_floor(floor, ((1, 1), (0, 0)))), first_unlike(floor, big, 1), apart(floor, big, 1)]
[True, ((1, -1, 1), (0, 0, 1)), (1, ()), (1, 0, 1)]
>>> from quasifloors.stretches import is_unit, least_power, lies_within, stretched, taken, undone
>>> shear = (((3, 2), (1, 0)), ((0, 0), (1, 0)))
>>> [taken(2, shear, ((1, 0), (0, 1))), undone(2, shear), is_unit(2, (1, 1)), least_power(big, floor, 3)]
[((3, 3), (0, 1)), (((3, -2), (-3, 2)), ((0, 0), (1, 0))), False, 1]
>>> [stretched(floor, (3, 2))[1][2], lies_within(floor, big), lies_within(big, floor)]
[((3, -2, 1), (3, -2, 1)), True, False]
>>> from quasifloors.rules import grown, grows, rule
>>> [len(rule(floor, (3, 2), 0)), len(grown(floor, (3, 2), 0, (here,))), grows(floor, (3, 2), 0)]
[1, 25, False]
>>> from quasifloors.rows import fillings, gaps, grown_word, grows_itself, members, next_member, word, words
>>> row = (5, (0, 0, 1), (1, 0, 1))
>>> [members(row, (0, 0, 1), (6, 0, 1)), next_member(row, (0, 0)), gaps(row)]
[[(0, 0), (1, 1), (2, 2)], (1, 1), [((0, 1), (2, -1, 1), ((-1, 1, 1), (1, 0, 1))), ((1, 1), (-1, 1, 1), ((0, 0, 1), (-1, 1, 1)))]]
>>> from quasifloors.texts import show_number, show_places, show_row
>>> [show_number((1, -2, 3)), show_number((0, 1, 1)), show_number((-1, 0, 2)), show_row(row), show_places(patch)]
['(1-2w)/3', '0+1w', '-1/2', 'row 5 0 1', '0 1, 1 0, 1 1']
"""


class Document(unittest.TestCase):
    def run_examples(self, text, name):
        test = doctest.DocTestParser().get_doctest(text, {}, name, name, 0)
        self.assertGreater(len(test.examples), 5)
        said = []
        self.assertEqual(doctest.DocTestRunner(verbose=False).run(test, out=said.append).failed, 0, "".join(said))

    def test_examples(self):
        self.run_examples(EXAMPLES, "DOC.md")

    def test_readme(self):
        self.run_examples((TOP / "README.md").read_text(encoding="utf-8"), "README.md")

    def check_function(self, function, names):
        self.assertTrue(inspect.isfunction(function))
        parameters = inspect.signature(function).parameters.values()
        self.assertEqual([parameter.name for parameter in parameters], names)
        for parameter in parameters:
            self.assertEqual(parameter.kind, parameter.POSITIONAL_OR_KEYWORD)
            self.assertIs(parameter.default, parameter.empty)

    def test_interface(self):
        for module, listed in INTERFACE:
            for name, names in listed.items():
                function = getattr(module, name)
                self.assertEqual(function.__module__, module.__name__)
                self.check_function(function, names.split())

    def test_console(self):
        self.assertTrue(inspect.isclass(consoles.Console))
        self.assertEqual(consoles.Console.__module__, "quasifloors.consoles")
        self.assertEqual(list(inspect.signature(consoles.Console).parameters), [])
        for name, names in CONSOLE.items():
            self.check_function(vars(consoles.Console)[name], ["self"] + names.split())

    def test_errors_take_a_value(self):
        listed = [told for told in vars(errors).values() if inspect.isclass(told)]
        self.assertEqual(len(listed), 28)
        for told in listed:
            self.assertEqual(list(inspect.signature(told).parameters), ["value"])


if __name__ == "__main__":
    unittest.main()
