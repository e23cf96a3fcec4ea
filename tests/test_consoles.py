"""consoles.py: what is kept, what is taken back, every order with every answer, and the errors."""

import copy
import re
import unittest

from quasifloors import alikes, errors, floors, patches, pictures, returns, rows, rules, stretches
from quasifloors.consoles import Console
from tests import plain_texts as texts
from tests import reference as ref
from tests import stretching
from tests.reference import KINDS
from tests.refusing import Refusing
from tests.samples import FIVE, HALVES, INNER, SQUARE, TWO, at
from tests.test_floor_refusals import FLOORS_WRONG
from tests.test_growth_refusals import ROWS_WRONG

NONE, ONE = (0, 0, 1), (1, 0, 1)
NAMES_WRONG = ["", "a1", "A", "aB", "a b", " a", "a ", "abcdefghi", "a-b", "a\n", "_", "a_b", "1", None, 0, 1, True, (), ("a",),
               ["a"], b"a", {"a": 1}]
PATCH = (((0, 0), (1, 0)), ((1, 0), (0, 0)), ((1, 0), (1, 0)))


def console(kind):
    """A console with two floors and two rows."""
    told = Console()
    told.keep_floor("one", (kind, SQUARE))
    told.keep_floor("two", (kind, TWO))
    told.keep_row("long", (kind, (-1, 0, 1), (2, 0, 3)))
    told.keep_row("row", (kind, NONE, ONE))
    return told


class Kept(Refusing):
    def test_none_at_first(self):
        told = Console()
        self.assertEqual(told.names(), [])
        self.assertEqual(told.order("names"), "none")
        self.refused("NothingToUndo", 0, told.undo)
        self.refused("NothingToUndo", 0, told.order, "undo")

    def test_keep(self):
        for kind in KINDS:
            told = Console()
            self.assertIsNone(told.keep_floor("abcdefgh", (kind, TWO)))
            self.assertIsNone(told.keep_floor(floor=(kind, FIVE), name="z"))
            self.assertIsNone(told.keep_row("b", (kind, NONE, ONE)))
            self.assertIsNone(told.keep_row(row=(kind, NONE, (0, 1, 1)), name="floor"))
            self.assertEqual(told.names(), [("abcdefgh", "floor"), ("b", "row"), ("floor", "row"), ("z", "floor")])
            self.assertEqual(told.floor("abcdefgh"), (kind, TWO))
            self.assertEqual(told.floor(name="z"), (kind, FIVE))
            self.assertEqual(told.row("b"), (kind, NONE, ONE))
            self.assertEqual(told.row(name="floor"), (kind, NONE, (0, 1, 1)))
            self.assertIsNone(told.drop("b"))
            self.assertIsNone(told.drop(name="floor"))
            self.assertEqual(told.names(), [("abcdefgh", "floor"), ("z", "floor")])

    def test_a_new_thing_of_an_elder_name(self):
        told = console(2)
        told.keep_row("one", (3, NONE, ONE))
        self.assertEqual(told.row("one"), (3, NONE, ONE))
        self.refused("WrongKind", "one", told.floor, "one")
        told.keep_floor("one", (5, TWO))
        self.assertEqual(told.floor("one"), (5, TWO))
        self.refused("WrongKind", "one", told.row, "one")
        told.keep_floor("one", (5, SQUARE))
        self.assertEqual(told.floor("one"), (5, SQUARE))
        self.assertEqual(len(told.names()), 4)
        for expected in ((5, TWO), None, (2, SQUARE)):
            told.undo()
            if expected is None:
                self.assertEqual(told.row("one"), (3, NONE, ONE))
            else:
                self.assertEqual(told.floor("one"), expected)

    def test_undo(self):
        told = Console()
        steps = [("keep_floor", "a", (2, TWO)), ("keep_row", "a", (2, NONE, ONE)), ("keep_row", "b", (3, NONE, ONE)),
                 ("drop", "a"), ("keep_floor", "a", (5, SQUARE)), ("drop", "b"), ("drop", "a")]
        seen = [[]]
        for action, *values in steps:
            getattr(told, action)(*values)
            seen.append([(name, what, getattr(told, what)(name)) for name, what in told.names()])
        for expected in seen[-2::-1]:
            # What raises an error is nothing that could be taken back.
            self.refused("InvalidName", "A", told.keep_floor, "A", (2, TWO))
            self.refused("UnknownName", "nobody", told.drop, "nobody")
            self.refused("InvalidFloor", (2, ()), told.keep_floor, "a", (2, ()))
            self.refused("InvalidRow", (2, ONE, NONE), told.keep_row, "a", (2, ONE, NONE))
            self.refused("Unorderly", "undo undo", told.order, "undo undo")
            self.assertIsNone(told.undo())
            self.assertEqual([(name, what, getattr(told, what)(name)) for name, what in told.names()], expected)
        self.refused("NothingToUndo", 0, told.undo)
        told.keep_floor("a", (2, TWO))
        told.undo()
        self.assertEqual(told.names(), [])
        self.refused("NothingToUndo", 0, told.undo)

    def test_undo_behind_orders(self):
        told = Console()
        texts_told = ["floor a\nfloor 2\n0 0\n2 0\n2 2\n0 2", "row b 5 0 1", "moved c a 1+1w 0", "stretched a a 3+2w",
                      "long b b 1+1w", "drop c", "moved a a 0 1", "drop b", "row c 2 0 1"]
        seen = [[]]
        for k, text in enumerate(texts_told):
            self.assertEqual(told.order(text), "done")
            seen.append([(name, told.order("show " + name)) for name, _ in told.names()])
        for k, expected in enumerate(seen[-2::-1]):
            for text in ("show nobody", "drop nobody", "floor a\nfloor 2\n0 0", "row a 2 1 0", "moved a nobody 0 0",
                         "stretched a a 1+1w", "density b b", "names x"):
                with self.assertRaises(errors.FloorError):
                    told.order(text)
            if k % 2:
                self.assertEqual(told.order("undo"), "done")
            else:
                told.undo()
            self.assertEqual([(name, told.order("show " + name)) for name, _ in told.names()], expected)
        self.refused("NothingToUndo", 0, told.order, "undo")

    def test_sixty_changes(self):
        told = Console()
        for k in range(60):
            told.keep_row("ab"[k % 2] * (k % 8 + 1), (5, NONE, (k + 1, 0, 1)))
        for k in range(60):
            told.undo()
        self.assertEqual(told.names(), [])

    def test_two_consoles(self):
        one, other = Console(), Console()
        one.keep_floor("a", (2, TWO))
        other.order("row a 5 0 1")
        other.keep_row("b", (5, NONE, ONE))
        self.assertEqual(one.names(), [("a", "floor")])
        self.assertEqual(other.names(), [("a", "row"), ("b", "row")])
        one.undo()
        self.assertEqual(one.names(), [])
        self.assertEqual(other.order("names"), "a row\nb row")
        self.refused("NothingToUndo", 0, one.undo)

    def test_lists_are_new(self):
        told = console(2)
        found = told.names()
        self.assertIs(type(found), list)
        found.clear()
        self.assertEqual(len(told.names()), 4)


class KeptRefusals(Refusing):
    def test_keep(self):
        for name in NAMES_WRONG:
            told = console(2)
            before = told.names()
            for action, thing, values in [(told.keep_floor, "floor", [(2, TWO)] + FLOORS_WRONG[:3]),
                                          (told.keep_row, "row", [(2, NONE, ONE)] + ROWS_WRONG[:3])]:
                for value in values:
                    self.both_ways("InvalidName", name, action, ("name", thing), (name, value))
            self.assertEqual(told.names(), before)
        told = console(2)
        for name in ("one", "row", "new", "abcdefgh"):
            for wrong in FLOORS_WRONG:
                self.both_ways("InvalidFloor", wrong, told.keep_floor, ("name", "floor"), (name, wrong))
            for wrong in ROWS_WRONG:
                self.both_ways("InvalidRow", wrong, told.keep_row, ("name", "row"), (name, wrong))
        self.assertEqual(told.names(), console(2).names())
        self.assertEqual(told.floor("one"), (2, SQUARE))
        for _ in range(4):
            told.undo()
        self.refused("NothingToUndo", 0, told.undo)

    def test_names(self):
        told = console(3)
        for name in NAMES_WRONG + ["nobody", "on", "onee"]:
            for action in (told.drop, told.floor, told.row):
                self.both_ways("UnknownName", name, action, ("name",), (name,))
        for name in ("row", "long"):
            self.both_ways("WrongKind", name, told.floor, ("name",), (name,))
        for name in ("one", "two"):
            self.both_ways("WrongKind", name, told.row, ("name",), (name,))
        told.drop("one")
        for action in (told.drop, told.floor, told.row):
            self.both_ways("UnknownName", "one", action, ("name",), ("one",))


class Orders(Refusing):
    def test_keeping(self):
        for kind in KINDS:
            told = console(kind)
            unit = stretching.GROWING[kind]
            there = ((1, -1), (0, 2))
            for window in (INNER, HALVES, FIVE):
                self.assertEqual(told.order("floor new\n" + texts.floor((kind, window))), "done")
                self.assertEqual(told.floor("new"), (kind, window))
                self.assertEqual(told.order("moved b new " + texts.place(there)), "done")
                self.assertEqual(told.floor("b"), floors.moved_floor((kind, window), there))
                self.assertEqual(told.order("stretched c b " + texts.whole(unit)), "done")
                self.assertEqual(told.floor("c"), stretches.stretched(told.floor("b"), unit))
                self.assertEqual(told.order("stretched c c " + texts.whole(stretching.UNITS[kind][2])), "done")
                self.assertEqual(told.floor("c"), stretches.stretched(stretches.stretched(told.floor("b"), unit),
                                                                      stretching.UNITS[kind][2]))
            for row in [(kind, NONE, ONE), (kind, (-1, 1, 2), (7, 0, 3)), (kind, (0, -1, 1), (1, 1, 2))]:
                self.assertEqual(told.order(texts.row(row).replace("row ", "row d ")), "done")
                self.assertEqual(told.row("d"), row)
                self.assertEqual(told.order("long e d " + texts.whole(unit)), "done")
                self.assertEqual(told.row("e"), rows.stretched_row(row, unit))
            self.assertEqual(told.order("moved row one 0 0"), "done")
            self.assertEqual(told.floor("row"), told.floor("one"))
            self.assertEqual(told.order(text="drop row"), "done")
            self.refused("UnknownName", "row", told.row, "row")

    def test_names_and_show(self):
        for kind in KINDS:
            told = console(kind)
            self.assertEqual(told.order("names"), "long row\none floor\nrow row\ntwo floor")
            for name, what in told.names():
                thing = getattr(told, what)(name)
                self.assertEqual(told.order("show " + name), texts.floor(thing) if what == "floor" else texts.row(thing))

    def test_asking_of_floors(self):
        for kind in KINDS:
            told = console(kind)
            told.keep_floor("five", (kind, FIVE))
            told.keep_floor("there", floors.moved_floor((kind, FIVE), ((1, 2), (-1, 1))))
            unit = texts.whole(stretching.GROWING[kind])
            for name in ("one", "two", "five", "there"):
                floor = told.floor(name)
                self.assertEqual(told.order("density " + name), texts.number(floors.density(floor)))
                for place in [((0, 0), (0, 0)), ((1, 0), (0, 0)), ((2, -1), (1, 1)), ((-1, 3), (0, -2))]:
                    self.assertEqual(told.order("has %s %s" % (name, texts.place(place))),
                                     "yes" if floors.has(floor, place) else "no")
                for r in (0, 1):
                    expected = [texts.number(share) + " : " + texts.places(patch) for patch, share in patches.patches(floor, r)]
                    self.assertEqual(told.order("patches %s %d" % (name, r)), "\n".join(expected))
                    self.assertEqual(told.order("grows %s %s %d" % (name, unit, r)),
                                     "yes" if rules.grows(floor, stretching.GROWING[kind], r) else "no")
                patch = max(patches.patches(floor, 1), key=lambda told: ref.rooted(kind, told[1])[0])[0]
                self.assertEqual(told.order("again %s 1 %s" % (name, texts.places(patch))), str(returns.again(floor, 1, patch)))
                self.assertEqual(told.order("again %s 0 -" % name), "0")
                for other in ("one", "two", "five", "there"):
                    point = alikes.alike(floor, told.floor(other))
                    self.assertEqual(told.order("alike %s %s" % (name, other)), "no" if point is None else texts.point(point))
                for numbers in [(0, 0, 6, 4, 2), (-3, 1, 5, 5, 1), (0, 0, 0, 3, 1), (0, 0, 3, 0, 8), (-1, -1, 1, 1, 1)]:
                    self.assertEqual(told.order("drawn %s %d %d %d %d %d" % ((name,) + numbers)),
                                     "\n".join(pictures.drawn(floor, *numbers)))
        self.assertEqual(console(2).order("again two 1 " + texts.places(PATCH)), "1")
        self.assertEqual(console(5).order("grows one 1+1w 0"), "yes")
        self.assertEqual(console(2).order("drawn one 0 0 0 3 1"), "\n\n")

    def test_asking_of_rows(self):
        for kind in KINDS:
            told = console(kind)
            for name in ("row", "long"):
                row = told.row(name)
                expected = [texts.whole(gap) + " " + texts.number(share) for gap, share, _ in rows.gaps(row)]
                self.assertEqual(told.order("gaps " + name), "\n".join(expected))
                for n in (0, 1, 4, 12):
                    expected = [texts.number(share) + " : " + texts.word(word) for word, share in rows.words(row, n)]
                    self.assertEqual(told.order("words %s %d" % (name, n)), "\n".join(expected))
        self.assertEqual(console(2).order("words row 0"), "1 : -")

    def test_asking_changes_nothing(self):
        told = console(5)
        before = told.names()
        for text in ("names", "show one", "has one 0 0", "density two", "patches two 1", "again one 0 -", "alike one two",
                     "grows one 1+1w 0", "gaps row", "words long 3", "drawn one 0 0 3 3 1"):
            first = told.order(text)
            self.assertIs(type(first), str)
            self.assertEqual(told.order(text=text), first)
        self.assertEqual(told.names(), before)
        for _ in range(4):
            told.undo()
        self.refused("NothingToUndo", 0, told.undo)

    def test_names_that_are_words(self):
        told = Console()
        for name in ("floor", "row", "names", "undo", "drop", "none", "show", "again"):
            self.assertEqual(told.order("row %s 5 0 1" % name), "done")
            self.assertEqual(told.order("show " + name), "row 5 0 1")
            self.assertEqual(told.order("floor %s\nfloor 2\n0 0\n1 0\n0 1" % name), "done")
            self.assertEqual(told.order("density " + name), "1/16")
        self.assertEqual(told.order("drop drop"), "done")
        self.refused("UnknownName", "drop", told.order, "show drop")


# Behind the word of an order: a name, an integer, a whole number, a number, places.
SORTS = {"row": "NIPP", "moved": "NNXX", "stretched": "NNX", "long": "NNX", "drop": "N", "undo": "", "show": "N", "has": "NXX",
         "density": "N", "patches": "NI", "again": "NIL", "alike": "NN", "grows": "NXI", "gaps": "N", "words": "NI",
         "drawn": "NIIIII", "names": ""}
PARTS = {"N": "([a-z]{1,8})", "I": "(%s)" % texts.INTEGER, "X": "([^ ]*)", "P": "([^ ]*)", "L": "(.*)"}
RIGHT = ["row a 5 0 1", "moved a one 1+1w 0", "stretched a one 3+2w", "long a row 3+2w", "drop one", "undo", "show one",
         "has one 0 1", "density one", "patches one 1", "again one 0 -", "alike one two", "grows one 3+2w 0", "gaps row",
         "words row 2", "drawn one 0 0 2 2 1", "names"]
UNORDERLY = ["", " ", "x", "Names", "names ", " names", "names x", "undo ", "undo 1", "nam", "namess", "show", "show ", "show  one",
             "show one ", "show One", "show one two", "show o1", "show abcdefghi", "show -", "drop", "drop ", "drop a-b",
             "drop one two", "has one 0", "has one 0 0 0", "has one 0  0", "has one 0 0 ", "has one 1/2 0", "has one 0 w",
             "has one 0 01", "has one 0, 0", "has 1 0 0", "has one 1234567890 0", "density", "density one two", "patches one",
             "patches one -", "patches one 1 1", "patches one 1.0", "patches one 01", "patches one 1/2", "patches one 1+1w",
             "patches one 1234567890", "again one 1", "again one 1 ", "again one - 1", "again one 1 0 1,1 0",
             "again one 1 0 1, 1", "again one 1 0 1, 1 0 ", "again one 1  -", "again one 1 --", "again one 1 - -",
             "again one w 0 1", "alike one", "alike one two one", "alike one TWO", "grows one 3+2w", "grows one 3+2w 0 0",
             "grows one (3+2w)/2 0", "grows one 3 2 0", "grows one 0 1/2", "gaps", "gaps row 1", "words row", "words row n",
             "words row 1 1", "words row 1/2", "drawn one 0 0 2 2", "drawn one 0 0 2 2 1 1", "drawn one 0 0 2 2 w",
             "drawn one 0 0 2 2 1/2", "drawn one 0 0  2 1", "row", "row a", "row a 5 0", "row a 5 0 1 1", "row a 5 0 1/1",
             "row A 5 0 1", "row a five 0 1", "row a 5 0 01", "row abcdefghi 5 0 1", "row a 1/2 0 1", "row 5 0 1", "moved a one",
             "moved a one 0", "moved a one 0 0 0", "moved a one 1/2 0", "moved 1 one 0 0", "moved a 1 0 0", "moved a one two",
             "stretched a one", "stretched a one 3/2", "stretched a one 3+2w 0", "stretched a1 one 3+2w", "long a row",
             "long a row 1+1w 1", "long a row 1/2", "long a", "floor", "floor ", "floor a", "floor abcdefghi", "floor a b",
             "floor A\nfloor 2\n0 0\n1 0\n0 1", "floor\nfloor 2\n0 0\n1 0\n0 1", "floor a \nfloor 2\n0 0\n1 0\n0 1",
             "floor a 2\n0 0\n1 0\n0 1", "floor  a\nfloor 2\n0 0\n1 0\n0 1", " floor a\nfloor 2\n0 0\n1 0\n0 1", "\n", "\nnames",
             "floor 2\n0 0\n1 0\n0 1", "grow one 3+2w 0", "word row 2", "gap row", "keep a", "name", "has", "again", "again one",
             "alike", "grows", "words", "drawn", "moved", "stretched", "long", "patches"]


class OrderRefusals(Refusing):
    def test_unorderly(self):
        for text in UNORDERLY:
            told = console(2)
            before = told.names()
            self.both_ways("Unorderly", text, told.order, ("text",), (text,))
            self.assertEqual(told.names(), before)
            self.assertFalse(self.is_orderly(text))
        for wrong in (None, 0, True, ("names",), b"names", ["names"]):
            self.both_ways("Unorderly", wrong, console(2).order, ("text",), (wrong,))
        told = console(2)
        for text in RIGHT:
            for wrong in (text + "\n", text + "\n\n", "\n" + text, text + "\n" + text, text + " ", " " + text,
                          text.replace(" ", "  ", 1) + " ", text.upper(), text[1:]):
                self.both_ways("Unorderly", wrong, told.order, ("text",), (wrong,))
        for text in RIGHT:
            self.assertTrue(self.is_orderly(text))
            console(2).order(text)

    def is_orderly(self, text):
        """Whether a text is one of the orders of one line, told by patterns."""
        word = text.partition(" ")[0]
        if word not in SORTS or "\n" in text:
            return False
        found = re.fullmatch(" ".join([word] + [PARTS[sort] for sort in SORTS[word]]), text)
        if found is None:
            return False
        readings = {"X": texts.whole_of, "P": texts.number_of, "L": texts.places_of}
        return all([sort in "NI" or readings[sort](part) is not None for sort, part in zip(SORTS[word], found.groups())])

    def test_nearly_right(self):
        # Whatever is done to an order: either it is one of the words, or it is unorderly as a whole.
        for text in RIGHT:
            for wrong in texts.nearly(text):
                if any([part.isdigit() and int(part) > 2 for part in wrong.split(" ")]):
                    # Too great for the radius of a patch or the like.
                    continue
                told = console(2)
                orderly = self.is_orderly(wrong)
                try:
                    self.assertIs(type(told.order(wrong)), str)
                    self.assertTrue(orderly, wrong)
                except errors.Unorderly as error:
                    self.assertEqual(error.value, wrong)
                    self.assertFalse(orderly, wrong)
                except errors.FloorError as error:
                    self.assertTrue(orderly, wrong)
                    self.assertIn(type(error).__name__, ("UnknownName", "WrongKind", "InvalidRow", "InvalidUnit", "InvalidPatch",
                                                         "InvalidRadius", "InvalidNumber", "NoPatch"), wrong)
                    self.assertNotIn("\n", wrong)

    def test_lines_of_floors(self):
        told = console(2)
        right = texts.floor((2, SQUARE)).split("\n")
        for lines, n in [([""], 1), (["floor two"] + right[1:], 1), (["x"], 1), (right[:1] + ["x"], 2), (right[:2] + [""], 3),
                         (right + [""], 6), (right + ["0 0 0"], 6), (right[:3], 0), (right[:1], 0), (["floor 4"] + right[1:], 0),
                         (right[:1] + right[:0:-1], 0), (right + right[1:2], 0), (right[1:], 1), (["floor a"] + right, 1)]:
            text = "\n".join(["floor a"] + lines)
            self.both_ways("Unreadable", n, told.order, ("text",), (text,))
            self.refused("UnknownName", "a", told.floor, "a")

    def test_unknown_names_and_wrong_kinds(self):
        told = console(2)
        for text, name in [("show nobody", "nobody"), ("drop nobody", "nobody"), ("has nobody 0 0", "nobody"), ("gaps a", "a"),
                           ("density a", "a"), ("patches a 1", "a"), ("again a 0 -", "a"), ("alike a b", "a"),
                           ("alike one b", "b"), ("alike a one", "a"), ("alike row b", "b"), ("alike b row", "b"),
                           ("grows a 3+2w 0", "a"), ("words a 1", "a"), ("drawn a 0 0 1 1 1", "a"), ("moved a b 0 0", "b"),
                           ("moved a a 0 0", "a"), ("stretched one b 3+2w", "b"), ("long row a 3+2w", "a")]:
            self.both_ways("UnknownName", name, told.order, ("text",), (text,))
        for text, name in [("has row 0 0", "row"), ("density long", "long"), ("patches row 1", "row"), ("again row 0 -", "row"),
                           ("alike row one", "row"), ("alike one long", "long"), ("alike row long", "row"),
                           ("grows row 3+2w 0", "row"), ("drawn row 0 0 1 1 1", "row"), ("moved a row 0 0", "row"),
                           ("stretched a long 3+2w", "long"), ("long a one 3+2w", "one"), ("gaps two", "two"),
                           ("words one 1", "one")]:
            self.both_ways("WrongKind", name, told.order, ("text",), (text,))
        self.assertEqual(told.names(), console(2).names())

    def test_errors_of_functions(self):
        told = console(2)
        told.keep_floor("five", (5, TWO))
        two = (2, TWO)
        for text, name, value in [
                ("row a 4 0 1", "InvalidRow", (4, NONE, ONE)), ("row a 2 1 0", "InvalidRow", (2, ONE, NONE)),
                ("row row 2 1 1", "InvalidRow", (2, ONE, ONE)), ("row a -2 (1+1w)/2 5", "InvalidRow", (-2, (1, 1, 2), (5, 0, 1))),
                ("stretched a one 1+1w", "InvalidUnit", (1, 1)), ("stretched a one -1", "InvalidUnit", (-1, 0)),
                ("long a row 1", "InvalidUnit", (1, 0)), ("long a row 3-2w", "InvalidUnit", (3, -2)),
                ("patches two -1", "InvalidRadius", -1), ("again two -1 -", "InvalidRadius", -1),
                ("again two 1 1 0, 0 1", "InvalidPatch", (((1, 0), (0, 0)), ((0, 0), (1, 0)))),
                ("again two 1 2 0", "InvalidPatch", (((2, 0), (0, 0)),)), ("again two 1 0 0", "InvalidPatch", (((0, 0), (0, 0)),)),
                ("again two 1 -", "NoPatch", ()), ("again two 1 1 0", "NoPatch", (((1, 0), (0, 0)),)),
                ("alike two five", "InvalidPair", (two, (5, TWO))), ("alike five two", "InvalidPair", ((5, TWO), two)),
                ("grows two 1 0", "InvalidUnit", (1, 0)), ("grows two 3-2w -1", "InvalidUnit", (3, -2)),
                ("grows two 3+2w -1", "InvalidRadius", -1), ("words row -1", "InvalidRadius", -1),
                ("drawn two 0 0 -1 2 1", "InvalidNumber", -1), ("drawn two 0 0 2 -3 1", "InvalidNumber", -3),
                ("drawn two 0 0 2 2 0", "InvalidNumber", 0), ("drawn two 0 0 -1 -3 0", "InvalidNumber", -1)]:
            self.both_ways(name, value, told.order, ("text",), (text,))
        self.assertEqual(len(told.names()), 5)
        for _ in range(5):
            told.undo()
        self.refused("NothingToUndo", 0, told.undo)

    def test_names_come_before_what_is_wrong_else(self):
        told = console(2)
        for text, name, value in [("stretched a nobody 1+1w", "UnknownName", "nobody"), ("patches row -1", "WrongKind", "row"),
                                  ("long a one 1", "WrongKind", "one"), ("grows nobody 1 -1", "UnknownName", "nobody"),
                                  ("again nobody -1 1 0, 0 1", "UnknownName", "nobody"), ("drawn row 0 0 -1 -1 0", "WrongKind", "row"),
                                  ("alike nobody row", "UnknownName", "nobody"), ("words two -1", "WrongKind", "two"),
                                  ("moved one nobody 0 x", "Unorderly", "moved one nobody 0 x"),
                                  ("drop nobody x", "Unorderly", "drop nobody x")]:
            self.both_ways(name, value, told.order, ("text",), (text,))


class AnyThing(unittest.TestCase):
    def test_against_copies(self):
        """A long sequence of changes, with a copy of all that is kept before each of them."""
        told = Console()
        kept, before = {}, []
        floors_told = [(2, TWO), (3, FIVE), (5, SQUARE)]
        for k, turn in enumerate(ref.some_numbers(400, 10 ** 6, 5)):
            name = ("a", "b", "cc")[turn % 3]
            copied = copy.deepcopy(kept)
            action = abs(turn) // 3 % 5
            if action == 0:
                kept[name] = ("floor", floors_told[k % 3])
                told.keep_floor(name, floors_told[k % 3])
            elif action == 1:
                kept[name] = ("row", (5, NONE, (k + 1, 0, 1)))
                told.order("row %s 5 0 %d" % (name, k + 1))
            elif action == 2 and name in kept:
                del kept[name]
                told.drop(name)
            elif action == 3 and name in kept and kept[name][0] == "floor":
                kept["dd"] = ("floor", floors.moved_floor(kept[name][1], ((0, 1), (1, 0))))
                told.order("moved dd %s 0+1w 1" % name)
            elif before:
                kept = before.pop()
                told.undo()
                copied = None
            else:
                self.assertRaises(errors.NothingToUndo, told.undo)
                copied = None
            if copied is not None:
                before.append(copied)
            self.assertEqual(told.names(), sorted([(name, what) for name, (what, _) in kept.items()]))
            for name, (what, thing) in kept.items():
                self.assertEqual(getattr(told, what)(name), thing)


if __name__ == "__main__":
    unittest.main()
