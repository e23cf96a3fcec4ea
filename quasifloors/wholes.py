"""Whole numbers, as pairs, found by where they and their mates are.

Without any checks: what is handed in is right.
"""

from quasifloors.exact import STRETCH_UNITS, ceiled, difference, divided, floored, multiplied, pair_mate, pair_times

# 1 by what w is above its mate: a whole number less its mate is b times what w is.
APART = {2: (0, 1, 4), 3: (0, 1, 6), 5: (-1, 2, 5)}
# The square of the unit, rounded: by it the unit changes a length beside the length of the mates.
SQUARES = {2: 34, 3: 14, 5: 7}


def less_roots(p, b):
    """Return p less b w, not in its form."""
    return p[0], p[1] - b * p[2], p[2]


def less_mates(kind, p, b):
    """Return p less b times the mate of w, not in its form."""
    if kind == 5:
        return p[0] - b * p[2], p[1] + b * p[2], p[2]
    return p[0], p[1] + b * p[2], p[2]


def wholes_by_roots(kind, low, high, least, most):
    """Return the pairs of wholes_between, by going through each b that there may be."""
    first = ceiled(kind, multiplied(kind, difference(low, most), APART[kind]))
    last = floored(kind, multiplied(kind, difference(high, least), APART[kind]))
    found = []
    for b in range(first, last + 1):
        start = max(ceiled(kind, less_roots(low, b)), ceiled(kind, less_mates(kind, least, b)))
        end = min(floored(kind, less_roots(high, b)), floored(kind, less_mates(kind, most, b)))
        for a in range(start, end + 1):
            found.append((a, b))
    return found


def balance(kind, length, other):
    """Return the unit's power whose square is about a length by another one, neither of them 0."""
    many = floored(kind, divided(kind, length, other))
    if many == 0:
        return pair_mate(kind, balance(kind, other, length))
    power = (1, 0)
    while many > SQUARES[kind]:
        many = many // SQUARES[kind]
        power = pair_times(kind, power, STRETCH_UNITS[kind][:2])
    return power


def wholes_between(kind, low, high, least, most):
    """Return the pairs of the whole numbers from low to high whose mates are from least to most, ends too."""
    length, other = difference(high, low), difference(most, least)
    if length[:2] == (0, 0) or other[:2] == (0, 0):
        return wholes_by_roots(kind, low, high, least, most)
    power = balance(kind, length, other)
    if power == (1, 0):
        return wholes_by_roots(kind, low, high, least, most)
    # Shrunk by a power, their mates so being stretched by it, they are as many, but have fewer b.
    shrink, stretch = pair_mate(kind, power) + (1,), power + (1,)
    low, high = multiplied(kind, low, shrink), multiplied(kind, high, shrink)
    least, most = multiplied(kind, least, stretch), multiplied(kind, most, stretch)
    return [pair_times(kind, pair, power) for pair in wholes_by_roots(kind, low, high, least, most)]


def whole_behind(kind, start, power):
    """Return a pair whose mate is from a number on and below it and the mate of a power of the unit, added."""
    shrunk = multiplied(kind, start, power + (1,))
    b = -floored(kind, multiplied(kind, shrunk, APART[kind]))
    a = ceiled(kind, less_mates(kind, shrunk, b))
    return pair_times(kind, (a, b), power)
