"""rows.py, where nothing is wrong."""

import unittest
from functools import cache
from itertools import product

from quasifloors import rows
from tests import plain, stretching
from tests import reference as ref
from tests.reference import KINDS

NONE, ONE = (0, 0, 1), (1, 0, 1)
ENDS = [(NONE, ONE), ((-1, 0, 1), ONE), ((-1, 0, 1), (2, 0, 3)), ((-4, 0, 1), (2, 0, 1)), ((1, 0, 3), (7, 0, 12)),
        ((-1, 1, 2), (2, 0, 1)), ((0, -1, 1), (0, 1, 1)), ((-3, 0, 7), (1, 1, 5)), ((-2, 1, 1), (0, 1, 1)),
        ((3, 0, 1), (4, 0, 1)), (NONE, (0, 1, 1)), ((-1, 0, 12), (1, 0, 6))]
FAR = 300


def samples(kind):
    return [(kind, low, high) for low, high in ENDS]


def order(kind, p, q):
    """-1, 0 or 1, by fractions where it is not plain to see."""
    far = plain.real(kind, p) - plain.real(kind, q)
    if abs(far) > 1e-6:
        return 1 if far > 0 else -1
    return ref.sign_of(kind, ref.taken_off(ref.rooted(kind, p), ref.rooted(kind, q)))


def by_size(kind, pairs):
    """Whole numbers that are far enough from each other for a key that is not exact."""
    return sorted(pairs, key=lambda pair: plain.real(kind, pair + (1,)))


@cache
def plain_members(row, left, right):
    """The members between two numbers, by going through whole numbers: of each b the a that the mate leaves."""
    kind, low, high = row
    apart = plain.real(kind, (0, 1, 1)) - plain.real(kind, plain.mate(kind, (0, 1)))
    first = int((plain.real(kind, left) - plain.real(kind, high)) / apart) - 2
    last = int((plain.real(kind, right) - plain.real(kind, low)) / apart) + 2
    found = []
    for b in range(first, last + 1):
        middle = plain.real(kind, plain.mate(kind, (0, b)))
        for a in range(int(plain.real(kind, low) - middle) - 2, int(plain.real(kind, high) - middle) + 3):
            if order(kind, left, (a, b, 1)) <= 0 <= order(kind, right, (a, b, 1)) and is_from(kind, row[1:], (a, b)):
                found.append((a, b))
    return by_size(kind, found)


def steps(told):
    return [(b[0] - a[0], b[1] - a[1]) for a, b in zip(told, told[1:])]


def is_from(kind, part, pair):
    """Whether a whole number's mate is in a stretch, its low end too."""
    mate = plain.mate(kind, pair)
    return order(kind, part[0], mate) <= 0 and order(kind, mate, part[1]) < 0


def plain_word(row, member, n):
    """The word of a member, by the members behind it."""
    sizes = [gap for gap, _, _ in rows.gaps(row)]
    a, b = member
    far = int(plain.real(row[0], sizes[-1] + (1,)) + 1) * n
    there = plain_members(row, (a, b, 1), (a + far, b, 1))
    if there[0] != member:
        raise AssertionError("no member")
    return tuple([sizes.index(gap) for gap in steps(there)[:n]])


def number_sum(kind, numbers):
    found = (0, 0)
    for p in numbers:
        found = ref.added(found, ref.rooted(kind, p))
    return ref.unrooted(kind, found)


def length(kind, part):
    return ref.taken_off(ref.rooted(kind, part[1]), ref.rooted(kind, part[0]))


def share(row, part):
    return ref.unrooted(row[0], ref.divided(row[0], length(row[0], part), length(row[0], row[1:])))


class Members(unittest.TestCase):
    def test_is_row(self):
        for kind in KINDS:
            for row in samples(kind):
                self.assertIs(rows.is_row(row), True)
                self.assertIs(rows.is_row(told=row), True)
        one = (2, NONE, ONE)
        for told in [(2, ONE, NONE), (2, ONE, ONE), (4, NONE, ONE), (True, NONE, ONE), (2, NONE), (2, NONE, ONE, ONE), (),
                     [2, NONE, ONE], (2, [0, 0, 1], ONE), (2, NONE, [1, 0, 1]), (2, (0, 0), (1, 0)), (2, NONE, (2, 0, 2)),
                     (2, (0, 0, 2), ONE), (2, NONE, (1, 0, True)), (2, (False, 0, 1), ONE), None, 2, "row", (one,),
                     (2, NONE, None), (2, 0, 1), (3, (0, 1, 1), (8, 0, 5)), (5, (0, 1, 1), (8, 0, 5))]:
            self.assertIs(rows.is_row(told), False, told)
        self.assertIs(rows.is_row((2, (0, 1, 1), (8, 0, 5))), True)

    def test_is_member(self):
        for kind in KINDS:
            for row in samples(kind):
                there = set(plain_members(row, (-9, 0, 1), (9, 0, 1)))
                for pair in plain.wholes(kind, (-9, 0, 1), (9, 0, 1), (-6, 0, 1), (6, 0, 1)):
                    self.assertIs(rows.is_member(row, pair), pair in there)
                    self.assertIs(rows.is_member(member=pair, row=row), pair in there)
                for told in [None, 0, 1, (), (0,), (0, 0, 0), (0, 0, 1), [0, 0], (False, 0), (0, False), (0.0, 0), "00",
                             ((0, 0), (0, 0)), (0, None), {}, set(), b"00", object()]:
                    self.assertIs(rows.is_member(row, told), False)

    def test_ends(self):
        # The low end belongs to a row, and the high end does not.
        for kind in KINDS:
            for low, high in [((0, 0), (1, 0)), ((-2, 1), (1, 1)), ((1, -1), (2, 0)), ((-3, 0), (0, 1))]:
                row = (kind, low + (1,), high + (1,))
                if not rows.is_row(row):
                    continue
                first, last = plain.mate(kind, low)[:2], plain.mate(kind, high)[:2]
                self.assertIs(rows.is_member(row, first), True)
                self.assertIs(rows.is_member(row, last), False)
                for pair in (first, last):
                    a, b = pair
                    told = rows.members(row, (a, b, 1), (a, b, 1))
                    self.assertEqual(told, [pair] if pair == first else [])
                self.assertIn(first, rows.members(row, (-20, 0, 1), (20, 0, 1)))

    def test_members(self):
        for kind in KINDS:
            for row in samples(kind):
                for left, right in [((0, 0, 1), (6, 0, 1)), ((-40, 1, 3), (35, -1, 2)), ((999, 0, 1), (1003, 0, 1)),
                                    ((-1, 0, 2), (-1, 0, 2)), ((0, 0, 1), (0, 0, 1)), ((0, -1, 1), (0, 1, 1)),
                                    ((-999, -999, 1), (-990, -999, 1))]:
                    expected = plain_members(row, left, right)
                    self.assertEqual(rows.members(row, left, right), expected, (row, left, right))
                    self.assertEqual(rows.members(right=right, left=left, row=row), expected)

    def test_ends_that_are_members(self):
        for kind in KINDS:
            for row in samples(kind):
                told = rows.members(row, (-20, 0, 1), (20, 0, 1))
                for j, k in ((0, 1), (1, 2), (2, 2), (0, len(told) - 1)):
                    left, right = told[j] + (1,), told[k] + (1,)
                    self.assertEqual(rows.members(row, left, right), told[j:k + 1])

    def test_next_and_last(self):
        for kind in KINDS:
            for row in samples(kind):
                told = plain_members(row, (-30, 0, 1), (30, 0, 1)) + plain_members(row, (900, 5, 1), (960, 5, 1))
                for one, other in zip(told, told[1:]):
                    if plain.real(kind, other + (1,)) - plain.real(kind, one + (1,)) > 500:
                        continue
                    self.assertEqual(rows.next_member(row, one), other)
                    self.assertEqual(rows.next_member(member=one, row=row), other)
                    self.assertEqual(rows.last_member(row, other), one)
                    self.assertEqual(rows.last_member(member=other, row=row), one)


class Gaps(unittest.TestCase):
    def test_all_that_come(self):
        for kind in KINDS:
            for row in samples(kind):
                told = rows.gaps(row)
                self.assertEqual(rows.gaps(row=row), told)
                there = plain_members(row, (-FAR, 0, 1), (FAR, 0, 1))
                self.assertEqual([gap for gap, _, _ in told], by_size(kind, set(steps(there))))
                parts = {gap: part for gap, _, part in told}
                for member, gap in zip(there, steps(there)):
                    for other, part in parts.items():
                        self.assertIs(is_from(kind, part, member), other == gap)

    def test_shares_and_parts(self):
        many = []
        for kind in KINDS:
            for row in samples(kind):
                told = rows.gaps(row)
                many.append(len(told))
                self.assertEqual(number_sum(kind, [found for _, found, _ in told]), ONE)
                for _, found, part in told:
                    self.assertEqual(found, share(row, part))
                    self.assertEqual(ref.sign_of(kind, ref.rooted(kind, found)), 1)
                # Beside each other the parts make up the row.
                starts = {part[0]: part[1] for _, _, part in told}
                end = row[1]
                for _ in told:
                    end = starts.pop(end)
                self.assertEqual(end, row[2])
                if len(told) == 3:
                    self.assertEqual(stretching.plus_pair(told[0][0], told[1][0]), told[2][0])
        self.assertEqual(set(many), {2, 3})
        self.assertGreater(many.count(2), 5)
        self.assertGreater(many.count(3), 15)

    def test_known_ones(self):
        self.assertEqual(rows.gaps((5, NONE, ONE)), [((0, 1), (2, -1, 1), ((-1, 1, 1), ONE)),
                                                     ((1, 1), (-1, 1, 1), (NONE, (-1, 1, 1)))])
        self.assertEqual(rows.gaps((2, NONE, ONE)), [((1, 1), (2, -1, 1), ((-1, 1, 1), ONE)),
                                                     ((2, 1), (-1, 1, 1), (NONE, (-1, 1, 1)))])
        self.assertEqual([gap for gap, _, _ in rows.gaps((3, NONE, ONE))], [(1, 1), (2, 1)])
        # A little shorter, and there is a third one.
        self.assertEqual([gap for gap, _, _ in rows.gaps((3, NONE, (9, 0, 10)))], [(1, 1), (2, 1), (3, 2)])
        self.assertEqual(rows.gaps((2, (-1, 0, 1), (0, 1, 3)))[2],
                         ((1, 1), (-4, 6, 7), ((-3, 1, 3), (-1, 1, 1))))

    def test_very_short_and_long_rows(self):
        for kind in KINDS:
            row = (kind, (-1, 0, 3), (3, 0, 4))
            for _ in range(6):
                row = rows.stretched_row(row, stretching.GROWING[kind])
                told = rows.gaps(row)
                self.assertEqual(number_sum(kind, [found for _, found, _ in told]), ONE)
            back = rows.gaps((kind, (-1, 0, 3), (3, 0, 4)))
            self.assertEqual([found for _, found, _ in told], [found for _, found, _ in back])
            for (gap, _, _), (other, _, _) in zip(told, back):
                for _ in range(6):
                    other = stretching.times_pair(kind, stretching.GROWING[kind], other)
                self.assertEqual(gap, other)
            row = (kind, (-50, 0, 1), (50, 0, 1))
            there = plain_members(row, (0, 0, 1), (3, 0, 1))
            self.assertEqual([gap for gap, _, _ in rows.gaps(row)][:2], by_size(kind, set(steps(there)))[:2])


class Words(unittest.TestCase):
    def seen(self, row, n, far=FAR):
        """All words of n gaps that members have in a long stretch, each with such members."""
        there = plain_members(row, (-far, 0, 1), (far, 0, 1))
        sizes = [gap for gap, _, _ in rows.gaps(row)]
        indexes = [sizes.index(gap) for gap in steps(there)]
        found = {}
        for k in range(len(indexes) - n + 1):
            found.setdefault(tuple(indexes[k:k + n]), []).append(there[k])
        return found

    def check_comes(self, row, word):
        """Show that the member that is found for a word has it."""
        member = rows.found_word(row, word)
        self.assertEqual(plain_word(row, member, len(word)), word)

    def test_word(self):
        for kind in KINDS:
            for row in samples(kind):
                for n in (0, 1, 2, 7, 20):
                    for told, starts in self.seen(row, n, 60).items():
                        for member in starts[:2]:
                            self.assertEqual(rows.word(row, member, n), told)
                            self.assertEqual(rows.word(n=n, member=member, row=row), told)

    def test_words(self):
        for kind in KINDS:
            for row in samples(kind):
                for n in (0, 1, 2, 3, 5):
                    told = rows.words(row, n)
                    self.assertEqual(rows.words(n=n, row=row), told)
                    self.assertEqual(told, sorted(told))
                    self.assertLessEqual(set(self.seen(row, n)), {found for found, _ in told})
                    for found, _ in told:
                        self.check_comes(row, found)
                    self.assertEqual(number_sum(kind, [found for _, found in told]), ONE)
                    for found, part in told:
                        self.assertEqual(part, share(row, rows.word_part(row, found)))
                self.assertEqual(rows.words(row, 0), [((), ONE)])
                self.assertEqual(rows.words(row, 1), [((k,), found) for k, (_, found, _) in enumerate(rows.gaps(row))])

    def test_long_words(self):
        for kind in KINDS:
            for row in samples(kind):
                told = rows.words(row, 20)
                self.assertEqual(number_sum(kind, [found for _, found in told]), ONE)
                self.assertTrue(set(self.seen(row, 20, 100)) <= {found for found, _ in told})
                self.assertLessEqual(len(told), 41)
                self.assertEqual(told, sorted(told))
                for found, _ in told[::9]:
                    self.check_comes(row, found)

    def test_word_part(self):
        for kind in KINDS:
            for row in samples(kind):
                there = plain_members(row, (-100, 0, 1), (100, 0, 1))
                told = self.seen(row, 4, 100)
                self.assertEqual(rows.word_part(row, ()), row[1:])
                for word in product(range(len(rows.gaps(row))), repeat=4):
                    part = rows.word_part(row, word)
                    self.assertEqual(rows.word_part(word=word, row=row), part)
                    if word not in dict(rows.words(row, 4)):
                        self.assertIsNone(part)
                        self.assertNotIn(word, told)
                        continue
                    self.assertTrue(plain.at_most(kind, row[1], part[0]) and plain.at_most(kind, part[1], row[2]))
                    starts = set(told.get(word, []))
                    for member in there[:-4]:
                        self.assertIs(is_from(kind, part, member), member in starts)

    def test_found_word(self):
        for kind in KINDS:
            for row in samples(kind):
                for n in (0, 1, 6, 13):
                    for word, _ in rows.words(row, n):
                        member = rows.found_word(row, word)
                        self.assertEqual(rows.found_word(word=word, row=row), member)
                        self.assertTrue(rows.is_member(row, member))
                        self.assertEqual(rows.word(row, member, n), word)
                        self.assertIs(type(member), tuple)

    def test_words_of_200_gaps(self):
        for kind in KINDS:
            for row in samples(kind):
                there = plain_members(row, (0, 0, 1), (900, 0, 1))[:201]
                between = steps(there)
                sizes = [gap for gap, _, _ in rows.gaps(row)]
                word = tuple([sizes.index(gap) for gap in between])
                self.assertEqual(rows.word(row, there[0], len(word)), word)
                part = rows.word_part(row, word)
                self.assertTrue(is_from(kind, part, there[0]))
                self.assertEqual(rows.word(row, rows.found_word(row, word), len(word)), word)
                # A word that never comes, however often its gap may come once.
                self.assertIsNone(rows.word_part(row, (len(sizes) - 1,) * 200))


class Growing(unittest.TestCase):
    def units(self, kind):
        unit = stretching.GROWING[kind]
        return [unit, stretching.times_pair(kind, unit, unit)]

    def plain_within(self, row, unit):
        kind, low, high = row
        small = self.plain_stretched(row, unit)
        return plain.at_most(kind, low, small[1]) and plain.at_most(kind, small[2], high)

    def plain_stretched(self, row, unit):
        kind, low, high = row
        mate = ref.rooted(kind, plain.mate(kind, unit))
        return (kind,) + tuple([ref.unrooted(kind, ref.multiplied(kind, mate, ref.rooted(kind, p))) for p in (low, high)])

    def test_stretched_row(self):
        for kind in KINDS:
            for row in samples(kind):
                for unit in self.units(kind):
                    there = rows.stretched_row(row, unit)
                    self.assertEqual(there, self.plain_stretched(row, unit))
                    self.assertEqual(rows.stretched_row(unit=unit, row=row), there)
                    left, right = (-3, 1, 2), (7, 0, 1)
                    scaled = [ref.unrooted(kind, ref.multiplied(kind, ref.rooted(kind, unit + (1,)), ref.rooted(kind, p)))
                              for p in (left, right)]
                    expected = [stretching.times_pair(kind, unit, pair) for pair in rows.members(row, left, right)]
                    self.assertEqual(rows.members(there, scaled[0], scaled[1]), expected)

    def plain_fillings(self, row, unit):
        """Fillings by going through members, all but perhaps those that come most rarely."""
        kind = row[0]
        there = plain_members(row, (-20, 0, 1), (20, 0, 1))
        found = [set() for _ in rows.gaps(row)]
        for member, following in zip(there, there[1:]):
            gap, word = self.filling_behind(row, unit, member)
            found[gap].add(word)
        return found

    def filling_behind(self, row, unit, member):
        """The index of the gap behind a member, and its filling there."""
        kind = row[0]
        sizes = [gap for gap, _, _ in rows.gaps(row)]
        at = plain_word(row, member, 1)[0]
        start = stretching.times_pair(kind, unit, member)
        end = stretching.times_pair(kind, unit, stretching.plus_pair(member, sizes[at]))
        there = plain_members(row, start + (1,), end + (1,))
        self.assertEqual((there[0], there[-1]), (start, end))
        return at, tuple([sizes.index(gap) for gap in steps(there)])

    def check_filling(self, row, unit, at, word):
        """Show that a filling comes in a gap: behind a member whose mate is in what is left of the gap's part."""
        kind = row[0]
        part = self.plain_stretched((kind,) + rows.gaps(row)[at][2], unit)[1:]
        other = rows.word_part(row, word)
        low = other[0] if order(kind, part[0], other[0]) < 0 else part[0]
        high = part[1] if order(kind, part[1], other[1]) < 0 else other[1]
        start = rows.found_word((kind, low, high), ())
        member = stretching.times_pair(kind, plain.mate(kind, unit)[:2], start)
        self.assertEqual(self.filling_behind(row, unit, member), (at, word))

    def test_fillings(self):
        several = 0
        for kind in KINDS:
            for row in samples(kind):
                for unit in self.units(kind):
                    if self.plain_within(row, unit):
                        told = rows.fillings(row, unit)
                        for at, (words, seen) in enumerate(zip(told, self.plain_fillings(row, unit))):
                            self.assertEqual(list(words), sorted(set(words)))
                            self.assertLessEqual(seen, set(words))
                            for word in words:
                                self.check_filling(row, unit, at, word)
                        self.assertEqual(rows.fillings(unit=unit, row=row), told)
                        several += max([len(words) for words in told]) > 1
                        self.lengths(row, unit, told)
        self.assertGreater(several, 5)

    def lengths(self, row, unit, told):
        """Each filling is as long as its gap, stretched, and comes."""
        sizes = [gap for gap, _, _ in rows.gaps(row)]
        for gap, words in zip(sizes, told):
            for word in words:
                total = (0, 0)
                for k in word:
                    total = stretching.plus_pair(total, sizes[k])
                self.assertEqual(total, stretching.times_pair(row[0], unit, gap))
                self.assertIsNotNone(rows.word_part(row, word))

    def test_grows_itself(self):
        seen = []
        for kind in KINDS:
            for row in samples(kind):
                for unit in self.units(kind):
                    grows = rows.grows_itself(row, unit)
                    self.assertIs(rows.grows_itself(unit=unit, row=row), grows)
                    expected = self.plain_within(row, unit)
                    if expected:
                        expected = max([len(words) for words in rows.fillings(row, unit)]) == 1
                    self.assertIs(grows, expected)
                    seen.append(grows)
        self.assertGreater(seen.count(True), 4)
        self.assertGreater(seen.count(False), 20)

    def test_just_within(self):
        for kind in KINDS:
            unit = stretching.GROWING[kind]
            # Ends at 0 stay there; an end a little beyond it comes nearer, which is within on one side alone.
            for low, high, within in [(NONE, ONE, True), ((1, 0, 999), ONE, False), ((-1, 0, 999), ONE, True),
                                      ((-1, 0, 1), NONE, True), ((-1, 0, 1), (1, 0, 999), True),
                                      ((-1, 0, 1), (-1, 0, 999), False)]:
                row = (kind, low, high)
                self.assertIs(self.plain_within(row, unit), within)
                if within:
                    self.assertEqual(len(rows.fillings(row, unit)), len(rows.gaps(row)))
                else:
                    self.assertIs(rows.grows_itself(row, unit), False)

    def test_grown_word(self):
        self.assertEqual(rows.fillings((5, NONE, ONE), (1, 1)), [((1, 0),), ((1, 1, 0),)])
        self.assertEqual(rows.grown_word((5, NONE, ONE), (1, 1), (0, 1, 1)), (1, 0, 1, 1, 0, 1, 1, 0))
        for kind in KINDS:
            for row in samples(kind):
                for unit in self.units(kind):
                    if not rows.grows_itself(row, unit):
                        continue
                    fills = [words[0] for words in rows.fillings(row, unit)]
                    for word in [(), (0,), (1,), (0, 0, 0), (1, 0, 1, 1, 0), (0, 1) * 100]:
                        expected = tuple([k for gap in word for k in fills[gap]])
                        self.assertEqual(rows.grown_word(row, unit, word), expected)
                        self.assertEqual(rows.grown_word(word=word, unit=unit, row=row), expected)
                    # What is grown of a word that comes, comes, from the stretched member.
                    member = rows.members(row, NONE, (40, 0, 1))[0]
                    word = rows.word(row, member, 9)
                    there = rows.grown_word(row, unit, word)
                    start = stretching.times_pair(kind, unit, member)
                    self.assertEqual(rows.word(row, start, len(there)), there)


class NewLists(unittest.TestCase):
    def test_lists_are_new(self):
        row = (5, NONE, ONE)
        for told in (lambda: rows.members(row, NONE, (9, 0, 1)), lambda: rows.gaps(row), lambda: rows.words(row, 3),
                     lambda: rows.fillings(row, (1, 1))):
            before = list(told())
            found = told()
            self.assertIs(type(found), list)
            found.clear()
            self.assertEqual(told(), before)
        self.assertIs(type(rows.fillings(row, (1, 1))[0]), tuple)
        self.assertIs(type(rows.gaps(row)[0]), tuple)
        self.assertIs(type(rows.words(row, 2)[0]), tuple)


if __name__ == "__main__":
    unittest.main()
