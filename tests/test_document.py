"""The examples and the interface of the document, and the examples of README.md."""

import doctest
import inspect
import unittest
from pathlib import Path

from quasifloors import errors, fields, polygons

TOP = Path(__file__).resolve().parent.parent

FIELDS = {"is_number": "told", "number": "a b n", "plus": "p q", "minus": "p q", "scaled": "p k", "times": "kind p q",
          "by": "kind p q", "mate": "kind p", "norm": "kind p", "sign": "kind p", "compared": "kind p q",
          "floor_of": "kind p", "about": "kind p n", "unit": "kind", "stretch_unit": "kind"}
POLYGONS = {"is_polygon": "kind told", "polygon": "kind points", "area": "kind polygon",
            "is_in": "kind polygon point", "moved": "kind polygon point", "cut": "kind polygon one other",
            "met": "kind one other", "less": "kind one other", "sum_of": "kind polygons"}

EXAMPLES = """
>>> from quasifloors.fields import about, by, compared, floor_of, mate, norm, number, sign, stretch_unit, times, unit
>>> [number(2, 4, -6), times(5, (0, 1, 1), (0, 1, 1)), by(2, (1, 0, 1), (1, 1, 1)), mate(5, (0, 1, 1)), norm(3, (2, 1, 1))]
[(-1, -2, 3), (1, 1, 1), (-1, 1, 1), (1, -1, 1), (1, 0, 1)]
>>> [sign(2, (3, -2, 1)), compared(5, (0, 1, 1), (8, 0, 5)), floor_of(3, (0, 2, 1)), about(2, (0, 1, 1), 3), unit(5), stretch_unit(2)]
[1, 1, 3, 1414, (0, 1, 1), (3, 2, 1)]
>>> from quasifloors.polygons import area, cut, is_in, less, met, polygon, sum_of
>>> def at(x, y): return ((x, 0, 1), (y, 0, 1))
>>> square = polygon(2, [at(0, 0), at(1, 0), at(1, 1), at(0, 1)])
>>> [square, area(2, square), is_in(2, square, at(0, 0)), is_in(2, square, at(1, 0)), is_in(2, square, at(0, 1))]
[(((0, 0, 1), (0, 0, 1)), ((1, 0, 1), (0, 0, 1)), ((1, 0, 1), (1, 0, 1)), ((0, 0, 1), (1, 0, 1))), (1, 0, 1), True, False, False]
>>> half = ((0, 1, 2), (0, 0, 1))
>>> [area(2, part) for part in cut(2, square, half, ((0, 1, 2), (1, 0, 1)))]
[(0, 1, 2), (2, -1, 2)]
"""


class Document(unittest.TestCase):
    def run_examples(self, text, name):
        test = doctest.DocTestParser().get_doctest(text, {}, name, name, 0)
        self.assertGreater(len(test.examples), 5)
        said = []
        self.assertEqual(doctest.DocTestRunner(verbose=False).run(test, out=said.append).failed, 0, "".join(said))

    def test_examples(self):
        self.run_examples(EXAMPLES, "DOC.md")

    def test_readme(self):
        self.run_examples((TOP / "README.md").read_text(encoding="utf-8"), "README.md")

    def test_interface(self):
        for module, listed in ((fields, FIELDS), (polygons, POLYGONS)):
            for name, names in listed.items():
                function = getattr(module, name)
                self.assertTrue(inspect.isfunction(function))
                self.assertEqual(function.__module__, module.__name__)
                parameters = inspect.signature(function).parameters.values()
                self.assertEqual([parameter.name for parameter in parameters], names.split())
                for parameter in parameters:
                    self.assertEqual(parameter.kind, parameter.POSITIONAL_OR_KEYWORD)
                    self.assertIs(parameter.default, parameter.empty)

    def test_errors_take_a_value(self):
        listed = [told for told in vars(errors).values() if inspect.isclass(told)]
        self.assertEqual(len(listed), 28)
        for told in listed:
            self.assertEqual(list(inspect.signature(told).parameters), ["value"])


if __name__ == "__main__":
    unittest.main()
