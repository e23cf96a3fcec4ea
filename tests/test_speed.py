"""What is asked some thousand times over is told quickly."""

import unittest
from time import perf_counter

from quasifloors import alikes, floors, patches, pictures, readers, returns, rows, rules, stretches, texts
from quasifloors.consoles import Console
from tests import stretching
from tests.plain import HERE, real
from tests.reference import KINDS
from tests.samples import at
from tests.samples import floors as samples

# With six corners, and a great area.
GREAT = (at(-2, 0), ((-1, 0, 1), (-3, 0, 2)), ((1, 0, 1), (-3, 0, 2)), ((3, 0, 2), (0, 0, 1)), ((1, 0, 1), (1, 0, 2)),
         ((-1, 0, 1), (3, 0, 4)))
SLIM = (at(-4, 0), at(4, 0), ((4, 0, 1), (1, 0, 16)))
FAR = ((999, -999), (-998, 999))


class Speed(unittest.TestCase):
    # Far more than it takes, so that a slow machine does not matter; far less than a poor way would take.
    def quick(self, times, seconds, action, *told):
        start = perf_counter()
        for _ in range(times):
            found = action(*told)
        self.assertLess(perf_counter() - start, seconds, (action.__name__, told))
        return found

    def floors(self, kind):
        return samples(kind) + [(kind, GREAT), (kind, SLIM)]

    def test_single_places(self):
        for kind in KINDS:
            for floor in self.floors(kind):
                self.quick(100, 1, floors.has, floor, FAR)
                self.quick(100, 1, floors.density, floor)
                self.quick(100, 1, floors.moved_floor, floor, FAR)
                self.quick(10, 2, floors.nearest, floor, FAR)

    def test_boxes(self):
        ends = [(3, 1, 2), (-4, 1, 3)]
        for kind in KINDS:
            for floor in self.floors(kind):
                for wide, high in ((10, 10), (100, 1), (1, 100), (1900, 0), (0, 1900)):
                    (a, b, n), (c, d, m) = ends
                    box = (ends[0], ends[1], (a + wide * n, b, n), (c + high * m, d, m))
                    self.quick(4, 1, floors.places, floor, box)

    def test_patches(self):
        for kind in KINDS:
            for floor in self.floors(kind):
                self.quick(10, 1, patches.near, floor, 1)
                self.quick(10, 1, patches.near, floor, 2)
                told = self.quick(1, 3, patches.patches, floor, 1)
                patch = told[len(told) // 2][0]
                place = self.quick(10, 1, patches.found, floor, 1, patch)
                self.assertEqual(self.quick(10, 1, patches.patch_of, floor, place, 1), patch)
                for action in (patches.part, patches.share, patches.comes):
                    self.quick(10, 1, action, floor, 1, patch)
                self.quick(10, 1, patches.how_often, floor, 1, ((1, 0), (0, 0)))

    def test_returns(self):
        for kind in KINDS:
            for floor in self.floors(kind):
                told = [patch for patch, share in patches.patches(floor, 1) if real(kind, share) > 1 / 100]
                for patch in told[:2]:
                    far = self.quick(1, 5, returns.again, floor, 1, patch)
                    self.quick(1, 5, returns.is_again, floor, 1, patch, far)
                    self.quick(1, 5, returns.lonely, floor, 1, patch, max(0, far - 1))

    def test_alikes(self):
        for kind in KINDS:
            told = self.floors(kind)
            for one, other in zip(told, told[1:]):
                self.quick(10, 1, alikes.alike, one, other)
                self.quick(1, 4, alikes.first_unlike, one, other, 1)
                self.quick(1, 4, alikes.apart, one, other, 1)

    def test_a_window_far_away_is_as_quick(self):
        for kind in KINDS:
            there = floors.moved_floor((kind, GREAT), FAR)
            self.quick(1, 3, patches.patches, there, 1)
            self.quick(10, 2, floors.nearest, there, HERE)

    def test_stretches(self):
        for kind in KINDS:
            told = self.floors(kind)
            matrix = stretching.matrices(kind)[4]
            for one, other in zip(told, told[1:]):
                self.quick(100, 1, stretches.taken_floor, one, matrix)
                self.quick(100, 1, stretches.stretched, one, stretching.GROWING[kind])
                self.quick(100, 1, stretches.lies_within, one, other)
                self.quick(20, 1, stretches.least_power, one, other, 8)

    def test_rules(self):
        for kind in KINDS:
            unit = stretching.GROWING[kind]
            for floor in self.floors(kind)[:-3]:
                told = self.quick(1, 2, rules.rule, floor, unit, 1)
                self.quick(1, 2, rules.grows, floor, unit, 1)
                self.quick(10, 1, rules.grows, floor, unit, 0)
                self.quick(1, 2, rules.is_rule, floor, unit, 1, told)
                some = tuple(floors.places(floor, ((-30, 0, 1), (-30, 0, 1), (30, 0, 1), (30, 0, 1)))[:20])
                self.quick(1, 4, rules.grown, floor, unit, 1, some)

    def test_rows(self):
        far = ((-999, 0, 1), (999, 0, 1))
        for kind in KINDS:
            unit = stretching.GROWING[kind]
            for row in [(kind, (0, 0, 1), (1, 0, 1)), (kind, (-4, 0, 1), (2, 0, 1)), (kind, (-1, 0, 8), (1, 0, 8)),
                        (kind, (-2, 1, 11), (0, 2, 5))]:
                member = self.quick(1, 2, rows.members, row, *far)[0]
                self.quick(100, 1, rows.gaps, row)
                self.quick(100, 1, rows.next_member, row, member)
                self.quick(100, 1, rows.last_member, row, member)
                self.quick(100, 1, rows.word, row, member, 20)
                word = self.quick(10, 1, rows.word, row, member, 200)
                self.quick(10, 1, rows.word_part, row, word)
                self.quick(10, 1, rows.found_word, row, word)
                self.quick(10, 1, rows.words, row, 20)
                self.quick(100, 1, rows.grows_itself, row, unit)
                if rows.grows_itself(row, unit):
                    self.quick(10, 1, rows.grown_word, row, unit, word)

    def test_pictures(self):
        for kind in KINDS:
            for floor in self.floors(kind):
                self.quick(4, 1, pictures.drawn, floor, -15, -15, 30, 30, 1)
                self.quick(10, 1, pictures.drawn, floor, -2, -2, 30, 30, 8)
                self.quick(10, 1, pictures.drawn_window, floor, 8, 30, 30)
            self.quick(100, 1, pictures.drawn_row, (kind, (-4, 0, 1), (2, 0, 1)), -15, 30, 1)

    def test_texts(self):
        places = tuple([((k, -k), (k, 999 - k)) for k in range(200)])
        text = self.quick(100, 1, texts.show_places, places)
        self.assertEqual(self.quick(20, 1, readers.read_places, text), places)
        word = tuple([k % 3 for k in range(300)])
        self.assertEqual(self.quick(20, 1, readers.read_word, self.quick(100, 1, texts.show_word, word)), word)
        for kind in KINDS:
            for floor in self.floors(kind):
                self.assertEqual(self.quick(100, 1, readers.read_floor, texts.show_floor(floor)), floor)

    def test_consoles(self):
        for kind in KINDS:
            told = Console()
            told.keep_floor("a", (kind, GREAT))
            told.keep_row("b", (kind, (-4, 0, 1), (2, 0, 1)))
            for k in range(60):
                self.quick(1, 1, told.order, "moved c a %d 1-1w" % k)
            for text in ("show a", "names", "has a 999-999w 5", "density c", "alike a c", "gaps b", "words b 5"):
                self.quick(100, 1, told.order, text)
            self.quick(1, 3, told.order, "patches a 1")
            for _ in range(60):
                self.quick(1, 1, told.undo)


if __name__ == "__main__":
    unittest.main()
