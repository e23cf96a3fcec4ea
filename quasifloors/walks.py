"""Rows, gone through from member to member. Without any checks: what is handed in is right.

Where the mate of a member is tells which gap comes behind it: the row is cut into stretches, one for each gap. The
ends of stretches are pairs here, to be divided by an integer that is the same for the whole row, the scale. A turn
is (gap, shift, start, end): behind a member whose mate is from the start on and below the end comes the gap, by
which the mate is shifted. Turns are in the sequence of the sizes of their gaps.
"""

from math import lcm

from quasifloors.exact import STRETCH_UNITS, ZERO, difference, negative, order_of, pair_mate, pair_minus, pair_plus
from quasifloors.exact import pair_sign, pair_times, total
from quasifloors.wholes import whole_behind, wholes_between


def mate_number(kind, pair):
    return pair_mate(kind, pair) + (1,)


def is_member_of(row, pair):
    """Tell whether a whole number is a member of a row."""
    kind, low, high = row
    mate = mate_number(kind, pair)
    return order_of(kind, low, mate) <= 0 and order_of(kind, mate, high) < 0


def is_less(kind, one, other):
    """Tell whether a pair is less than another one."""
    return pair_sign(kind, pair_minus(other, one)) > 0


def least_of(kind, pairs):
    least = pairs[0]
    for pair in pairs[1:]:
        if is_less(kind, pair, least):
            least = pair
    return least


def short_steps(kind, length):
    """Return the least whole numbers above 0 with a mate above 0 and with one below, no further off than a length."""
    ups, downs = [], []
    reach = 1
    while not ups or not downs:
        found = wholes_between(kind, ZERO, (reach, 0, 1), negative(length), length)
        mates = [(pair, mate_number(kind, pair)) for pair in found]
        ups = [pair for pair, mate in mates if order_of(kind, ZERO, mate) < 0 and order_of(kind, mate, length) < 0]
        downs = [pair for pair, mate in mates
                 if order_of(kind, mate, ZERO) < 0 and order_of(kind, negative(length), mate) < 0]
        reach = 4 * reach
    return least_of(kind, ups), least_of(kind, downs)


def scaled_pair(number, scale):
    a, b, n = number
    return a * (scale // n), b * (scale // n)


def scaled_mate(kind, pair, scale):
    a, b = pair_mate(kind, pair)
    return a * scale, b * scale


def turns_of(row):
    """Return (scale, turns) of a row.

    A member goes up by the least step that shifts its mate up, as far as there is room for this in the row, and
    else down. Where there is no room for either, both together are the least step: there are no shorter ones, and
    what is between them would lead from the one to the other.
    """
    kind, low, high = row
    scale = lcm(low[2], high[2])
    first, last = scaled_pair(low, scale), scaled_pair(high, scale)
    up, down = short_steps(kind, difference(high, low))
    rise, fall = scaled_mate(kind, up, scale), scaled_mate(kind, down, scale)
    highest, lowest = pair_minus(last, rise), pair_minus(first, fall)
    turns = [(up, rise, first, highest), (down, fall, lowest, last)]
    if is_less(kind, down, up):
        turns.reverse()
    if is_less(kind, highest, lowest):
        turns.append((pair_plus(up, down), pair_plus(rise, fall), highest, lowest))
    return scale, turns


def turn_at(kind, turns, spot):
    """Return the index of the turn of a spot in the row."""
    for at, (_, _, start, end) in enumerate(turns):
        if not is_less(kind, spot, start) and is_less(kind, spot, end):
            return at
    return None


def turn_before(kind, turns, spot):
    """Return the turn that leads to a spot in the row."""
    for turn in turns:
        gap, shift, start, end = turn
        earlier = pair_minus(spot, shift)
        if not is_less(kind, earlier, start) and is_less(kind, earlier, end):
            return turn
    return None


def walk(kind, scale, turns, member, n):
    """Return the list of the indexes of the n turns from a member on."""
    spot = scaled_mate(kind, member, scale)
    word = []
    for _ in range(n):
        at = turn_at(kind, turns, spot)
        word.append(at)
        spot = pair_plus(spot, turns[at][1])
    return word


def members_between(row, left, right):
    """Return the list of the members from a number to another one, both ends too, ascending in size."""
    kind, low, high = row
    scale, turns = turns_of(row)
    far = turns[0][0]
    for gap, shift, start, end in turns:
        far = gap if is_less(kind, far, gap) else far
    near = wholes_between(kind, left, total(left, far + (1,)), low, high)
    member = least_of(kind, [pair for pair in near if is_member_of(row, pair)])
    spot = scaled_mate(kind, member, scale)
    found = []
    while order_of(kind, member + (1,), right) <= 0:
        found.append(member)
        gap, shift, start, end = turns[turn_at(kind, turns, spot)]
        member, spot = pair_plus(member, gap), pair_plus(spot, shift)
    return found


def common_stretch(kind, start, end, other_start, other_end):
    """Return the ends of what two stretches have in common, None if this is nothing."""
    start = other_start if is_less(kind, start, other_start) else start
    end = other_end if is_less(kind, other_end, end) else end
    return (start, end) if is_less(kind, start, end) else None


def branches(kind, turns, start, end, moved):
    """Return a list of (index, start, end, moved) for the turns of a stretch of mates that are moved by then."""
    found = []
    for at, (_, shift, low, high) in enumerate(turns):
        stretch = common_stretch(kind, start, end, pair_minus(low, moved), pair_minus(high, moved))
        if stretch is not None:
            found.append((at, stretch[0], stretch[1], pair_plus(moved, shift)))
    return found


def word_stretches(kind, turns, start, end, n):
    """Return a list of (word, start, end) for all words of n gaps that come from a stretch."""
    stretches = [((), start, end, (0, 0))]
    for _ in range(n):
        longer = []
        for word, first, last, moved in stretches:
            for at, low, high, there in branches(kind, turns, first, last, moved):
                longer.append((word + (at,), low, high, there))
        stretches = longer
    return [(word, first, last) for word, first, last, moved in stretches]


def stretch_of_word(kind, turns, start, end, word):
    """Return the ends of the part of a word in a stretch, None if it does not come."""
    stretch = (start, end)
    moved = (0, 0)
    for at in word:
        gap, shift, low, high = turns[at]
        stretch = common_stretch(kind, stretch[0], stretch[1], pair_minus(low, moved), pair_minus(high, moved))
        if stretch is None:
            return None
        moved = pair_plus(moved, shift)
    return stretch


def words_to(kind, turns, start, end, goal):
    """Return the ascending tuple of the words that come from a stretch and lead on by just a whole number."""
    words = []
    left = [((), start, end, (0, 0), goal)]
    while left:
        word, first, last, moved, rest = left.pop()
        if rest == (0, 0):
            words.append(word)
            continue
        for at, low, high, there in branches(kind, turns, first, last, moved):
            left.append((word + (at,), low, high, there, pair_minus(rest, turns[at][0])))
    return tuple(sorted(words))


def fillings_of(row, unit):
    """Return the list of the fillings of each gap of a row that lies within once it is stretched by a unit."""
    kind = row[0]
    scale, turns = turns_of(row)
    shrink = pair_mate(kind, unit)
    found = []
    for gap, shift, start, end in turns:
        first, last = pair_times(kind, shrink, start), pair_times(kind, shrink, end)
        found.append(words_to(kind, turns, first, last, pair_times(kind, unit, gap)))
    return found


def whole_in(kind, low, high):
    """Return a whole number whose mate is from a number on and below another one."""
    power = (1, 0)
    while order_of(kind, total(low, mate_number(kind, power)), high) > 0:
        power = pair_times(kind, power, STRETCH_UNITS[kind][:2])
    return whole_behind(kind, low, power)
