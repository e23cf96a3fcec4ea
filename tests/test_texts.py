"""texts.py and readers.py: texts put together anew, read back, and spoilt."""

import unittest
from itertools import product

from quasifloors import errors, polygons, readers, texts
from tests import plain_texts as plain
from tests import reference as ref
from tests.reference import KINDS
from tests.samples import SQUARE, TWELVE, TWO, at
from tests.samples import floors as samples
from tests.test_rows import samples as row_samples

NUMBERS = [(a, b, n) for a, b, n in product((-12, -1, 0, 1, 5, 999), (-30, -1, 0, 1, 7), (1, 2, 3, 35))
           if plain.greatest(plain.greatest(abs(a), abs(b)), n) == 1]
LONG = 123456789
WHOLES = [(0, 0), (1, 0), (-1, 0), (0, 1), (0, -1), (3, -2), (-7, 12), (LONG, -LONG), (-LONG, LONG), (0, LONG)]
PLACES = [(x, y) for x in WHOLES[::2] for y in WHOLES[1::2]]


class Shown(unittest.TestCase):
    def same(self, action, name, told, expected):
        self.assertEqual(action(told), expected)
        self.assertEqual(action(**{name: told}), expected)
        self.assertIs(type(action(told)), str)

    def test_numbers(self):
        for p in NUMBERS + [(LONG, -LONG, 2), (0, LONG, 1), (-LONG, 0, LONG - 1)]:
            self.same(texts.show_number, "p", p, plain.number(p))
        for p, text in [((0, 0, 1), "0"), ((5, 0, 1), "5"), ((-5, 0, 1), "-5"), ((0, 1, 1), "0+1w"), ((0, -1, 1), "0-1w"),
                        ((1, -2, 3), "(1-2w)/3"), ((-1, 0, 2), "-1/2"), ((-4, 3, 1), "-4+3w"), ((0, 7, 2), "(0+7w)/2"),
                        ((-1, -1, 12), "(-1-1w)/12")]:
            self.same(texts.show_number, "p", p, text)

    def test_wholes_points_places(self):
        for pair in WHOLES:
            self.same(texts.show_whole, "pair", pair, plain.whole(pair))
        for point in product(NUMBERS[::5], NUMBERS[::7]):
            self.same(texts.show_point, "point", point, plain.point(point))
        for place in PLACES:
            self.same(texts.show_place, "place", place, plain.place(place))

    def test_lists(self):
        for many in (0, 1, 2, 25):
            for sort in (list, tuple):
                self.same(texts.show_places, "places", sort(PLACES[:many]), plain.places(PLACES[:many]))
                self.same(texts.show_word, "word", sort([k % 3 for k in range(many)]), plain.word([k % 3 for k in range(many)]))
        self.assertEqual([texts.show_places(()), texts.show_places([]), texts.show_word(()), texts.show_word([])], ["-"] * 4)
        self.assertEqual(texts.show_word((0, 1, 1)), "0 1 1")

    def test_floors_and_rows(self):
        for kind in KINDS:
            for floor in samples(kind) + [(kind, TWELVE)]:
                self.same(texts.show_floor, "floor", floor, plain.floor(floor))
            for row in row_samples(kind):
                self.same(texts.show_row, "row", row, plain.row(row))
        self.assertEqual(texts.show_floor((2, SQUARE)), "floor 2\n0 0\n1 0\n1 1\n0 1")
        self.assertEqual(texts.show_row((5, (-1, 1, 2), (8, 0, 5))), "row 5 (-1+1w)/2 8/5")

    def test_very_long_integers(self):
        for a, b in zip(ref.some_numbers(3, 10 ** 3999), ref.some_numbers(3, 10 ** 3999, 7)):
            self.assertEqual(texts.show_number((a, b, 1)), plain.number((a, b, 1)))
            self.assertEqual(texts.show_place(((a, b), (b, a))), plain.place(((a, b), (b, a))))
            self.assertGreater(len(texts.show_whole((a, b))), 7000)


class ReadBack(unittest.TestCase):
    def back(self, action, text, told):
        found = action(text)
        self.assertEqual(found, told)
        self.assertIs(type(found), tuple)
        self.assertEqual(action(text=text), told)

    def test_read_back(self):
        for p in NUMBERS + [(LONG, -LONG, 2), (0, LONG, 1), (-LONG, 0, LONG - 1)]:
            self.back(readers.read_number, plain.number(p), p)
        for point in product(NUMBERS[::5], NUMBERS[::7]):
            self.back(readers.read_point, plain.point(point), point)
        for place in PLACES:
            self.back(readers.read_place, plain.place(place), place)
        for many in (0, 1, 2, 7, 25):
            for told in (tuple(PLACES[:many]), tuple(PLACES[:many][::-1]), tuple(PLACES[:many] * 2)):
                self.back(readers.read_places, plain.places(told), told)
        for word in [(), (0,), (2, 1, 0), (999999999,), (0, 0), tuple(range(300)), (1,) * 300]:
            self.back(readers.read_word, plain.word(word), word)

    def test_floors_and_rows(self):
        for kind in KINDS:
            for floor in samples(kind) + [(kind, TWELVE), (kind, polygons.moved(kind, TWO, ((LONG, -LONG, 1),) * 2))]:
                self.back(readers.read_floor, plain.floor(floor), floor)
            for row in row_samples(kind) + [(kind, (-LONG, -LONG, 7), (LONG, LONG, 11))]:
                self.back(readers.read_row, plain.row(row), row)

    def test_many_places(self):
        told = tuple([((k, -k), (k * k, 1)) for k in range(200)])
        self.back(readers.read_places, texts.show_places(told), told)
        self.back(readers.read_places, texts.show_places(list(told)), told)


class Unreadable(unittest.TestCase):
    def unreadable(self, action, text, n):
        for told in ((text,), ()):
            with self.assertRaises(errors.Unreadable, msg=repr(text)) as seen:
                action(*told) if told else action(text=text)
            self.assertIs(type(seen.exception), errors.Unreadable)
            self.assertIs(type(seen.exception.value), int)
            self.assertEqual(seen.exception.value, n, repr(text))

    def check(self, action, reading, text):
        """Compare what a text of one line says with what a pattern tells."""
        first, newline, _ = text.partition("\n")
        expected = reading(first)
        if expected is None or newline:
            self.unreadable(action, text, 1 if expected is None else 2)
        else:
            self.assertEqual(action(text), expected, repr(text))
        return expected

    def test_nearly_right(self):
        for action, reading, right in [
                (readers.read_number, plain.number_of, ["0", "-12", "3/4", "0+1w", "12-3w", "(1-2w)/3", "(-10+6w)/15",
                                                        "123456789", "-1/2", "999999999+999999999w", "(4-6w)/9"]),
                (readers.read_point, plain.point_of, ["0 0", "-1/2 (1-2w)/3", "5+1w -7"]),
                (readers.read_place, plain.place_of, ["0 0", "-1 5", "5+1w 10-7w"]),
                (readers.read_places, plain.places_of, ["-", "0 0", "0 1, 1 0", "1+1w 0, 2 3, 0 0-1w"]),
                (readers.read_word, plain.word_of, ["-", "0", "10 2 3", "0 0 1"])]:
            right_ones = 0
            for told in right:
                self.assertIsNotNone(self.check(action, reading, told))
                for text in plain.nearly(told):
                    right_ones += self.check(action, reading, text) is not None
            self.assertGreater(right_ones, 20)

    def test_numbers_not_as_shown(self):
        for text in ["", " ", "+1", "-0", "00", "01", "1 ", " 1", "1+0w", "0+0w", "1+w", "w", "-w", "1w", "+1w", "1+-1w",
                     "1--1w", "2/4", "1/1", "0/2", "1/0", "1/-2", "1/02", "(1)/2", "(2+4w)/2", "(1+1w)/1", "(1+1w)", "1+1w/2",
                     "(1+1w)/0", "(1+1w)/-2", "(1+1w)2", "((1+1w))/2", "1234567890", "1+1234567890w", "1/1234567890", "-0+1w",
                     "1+01w", "1+1W", "1.0", "1e3", "1_0", "--1", "1-", "-", "/", "()/2", "(w)/2", "1//2", "1/2/3",
                     "1+1w+1w", "1+1", "0x1", "(0+0w)/2", "-1234567890", "(3+3w)/3", "1\t", "one"]:
            self.unreadable(readers.read_number, text, 1)
            self.assertIsNone(plain.number_of(text))
            self.unreadable(readers.read_point, text + " 0", 1)
            self.unreadable(readers.read_point, "0 " + text, 1)
            self.unreadable(readers.read_place, "0 " + text, 1)
            self.unreadable(readers.read_places, "0 0, 1 " + text, 1)
            self.unreadable(readers.read_row, "row 2 0 " + text, 1)
            self.unreadable(readers.read_floor, "floor 2\n0 0\n1 0\n1 " + text + "\n0 1", 4)

    def test_places_that_are_none(self):
        for text in ["", "0", "0 0 0", "0 1/2", "1/2 0", "(1+1w)/2 0", "0  0", "0,0", "0 0,", "-"]:
            self.unreadable(readers.read_place, text, 1)
        for text in ["", "0 0,1 1", "0 0 ,1 1", "0 0,  1 1", "0 0, ", ", 0 0", "0 0, -", "-, 0 0", "- ", " -", "--", "0 0 1 1",
                     "0 0; 1 1", "0 1/2"]:
            self.unreadable(readers.read_places, text, 1)
        for text in ["", "-1", "0 -1", "0  1", "0 1 ", " 0", "0,1", "01", "0 00", "1234567890", "- 0", "0 -", "--", "w", "1+1w",
                     "1/2"]:
            self.unreadable(readers.read_word, text, 1)

    def test_more_lines(self):
        for action, text in [(readers.read_number, "1/2"), (readers.read_point, "0 1/2"), (readers.read_place, "0 1"),
                             (readers.read_places, "0 1, 1 1"), (readers.read_places, "-"), (readers.read_word, "0 1"),
                             (readers.read_word, "-"), (readers.read_row, "row 2 0 1")]:
            action(text)
            for more in ("\n", "\n\n", "\n" + text, "\nx"):
                self.unreadable(action, text + more, 2)
            self.unreadable(action, "x" + text + "\n" + text, 1)
            self.unreadable(action, "\n" + text, 1)

    def test_rows(self):
        for text in ["", "row", "row 2", "row 2 0", "row 2 0 1 2", "row 2  0 1", " row 2 0 1", "row 2 0 1 ", "Row 2 0 1",
                     "row two 0 1", "row 2 0 1/0", "row 02 0 1", "row 2 1/1 2", "row 1234567890 0 1", "rows 2 0 1", "2 0 1",
                     "row 1/2 0 1", "row 2+1w 0 1", "row\n2 0 1", "floor 2 0 1"]:
            self.unreadable(readers.read_row, text, 1)
        for text in ["row 2 1 0", "row 2 1 1", "row 4 0 1", "row -2 0 1", "row 0 0 1", "row 123456789 0 1", "row 3 0+1w 8/5"]:
            self.unreadable(readers.read_row, text, 0)
            self.unreadable(readers.read_row, text + "\n", 2)
        for told in ["row 2 0 1", "row 5 -1/2 (1+1w)/2"]:
            for text in plain.nearly(told):
                first, newline, _ = text.partition("\n")
                found = plain.row_of(first)
                if found is None or newline:
                    self.unreadable(readers.read_row, text, 1 if found is None else 2)
                elif found[0] not in KINDS or ref.sign_of(found[0], ref.taken_off(
                        ref.rooted(found[0], found[2]), ref.rooted(found[0], found[1]))) < 1:
                    self.unreadable(readers.read_row, text, 0)
                else:
                    self.assertEqual(readers.read_row(text), found)

    def test_floors(self):
        lines = plain.floor((2, SQUARE)).split("\n")
        for text in ["", "floor", "floor ", "floor two", "floor 02", "floor 2 ", " floor 2", "floor  2", "Floor 2", "floor 2 2",
                     "floor 1/2", "floor 1234567890", "floor2", "row 2", "2", "floor 2+1w", "floor -0", "floor (2)"]:
            self.unreadable(readers.read_floor, text, 1)
            self.unreadable(readers.read_floor, "\n".join([text] + lines[1:]), 1)
            self.unreadable(readers.read_floor, "\n".join([text, "x"]), 1)
        for k in range(1, 5):
            for wrong in ["", "0", "0 0 0", "0  0", "0 0 ", "x", "0, 0", "0 1/1", "floor 2", "-"]:
                self.unreadable(readers.read_floor, "\n".join(lines[:k] + [wrong] + lines[k + 1:]), k + 1)
                self.unreadable(readers.read_floor, "\n".join(lines[:k] + [wrong] * (5 - k)), k + 1)
                self.unreadable(readers.read_floor, "\n".join(lines + [wrong]), 6)
        # All lines can stand, but the whole is no floor: kinds that are none, corners too few, turned about, in a line.
        for told in [lines[:1], lines[:2], lines[:3], lines[:1] + lines[:0:-1], lines[:1] + lines[2:] + lines[1:2],
                     lines + lines[1:2], ["floor 4"] + lines[1:], ["floor -2"] + lines[1:], ["floor 0"] + lines[1:],
                     ["floor 123456789"] + lines[1:], lines[:1] + ["0 0", "1 0", "2 0"], lines[:2] + lines[1:],
                     ["floor 2", "0 0", "2 0", "1 1/2", "2 1"]]:
            self.unreadable(readers.read_floor, "\n".join(told), 0)
        self.unreadable(readers.read_floor, "\n".join(lines) + "\n", 6)
        self.unreadable(readers.read_floor, "\n" + "\n".join(lines), 1)

    def test_floors_nearly_right(self):
        for told in ["floor 2\n0 0\n1 0\n0 1", "floor 5\n-1 0\n0 (0-1w)/2\n1/2 3"]:
            for text in plain.nearly(told):
                lines = text.split("\n")
                bad = [k + 1 for k, line in enumerate(lines)
                       if (plain.point_of(line) if k else plain.kind_of(line)) is None]
                kind = plain.kind_of(lines[0])
                window = tuple([plain.point_of(line) for line in lines[1:]])
                if bad:
                    self.unreadable(readers.read_floor, text, bad[0])
                elif kind not in KINDS or len(window) < 3 or not ref.is_right(kind, window):
                    self.unreadable(readers.read_floor, text, 0)
                else:
                    self.assertEqual(readers.read_floor(text), (kind, window))

    def test_windows_of_one_kind(self):
        window = (at(0, 0), ((0, 1, 1), (0, 0, 1)), ((8, 0, 5), (1, 0, 100)), at(1, 1))
        self.assertEqual(readers.read_floor(plain.floor((2, window))), (2, window))
        for kind in (3, 5):
            self.unreadable(readers.read_floor, plain.floor((kind, window)), 0)


if __name__ == "__main__":
    unittest.main()
