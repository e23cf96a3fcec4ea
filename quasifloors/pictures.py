"""Floors, rows and windows, drawn with signs."""

from quasifloors.checks import check_floor, check_integer, check_row
from quasifloors.errors import InvalidNumber
from quasifloors.exact import ceiled, floored, pair_plus, pair_sign, quotient, reduced
from quasifloors.shapes import sides_of
from quasifloors.walks import members_between
from quasifloors.windows import places_in

FULL = "#"
BARE = "."


def check_from(told, least):
    """Refuse what is no integer, or below the least one."""
    check_integer(told)
    if told < least:
        raise InvalidNumber(told)


def end_of(start, many, size):
    """Return the number that is so many columns or rows behind an integer."""
    return reduced(start * size + many, 0, size)


def column_of(kind, whole, start, size):
    """Return how many columns or rows there are from an integer to a whole number."""
    a, b = whole
    return floored(kind, ((a - start) * size, b * size, 1))


def drawn(floor, left, low, wide, high, size):
    """Return the rows of signs, the topmost first, that show in which small squares a floor has places."""
    check_floor(floor)
    check_integer(left)
    check_integer(low)
    check_from(wide, 0)
    check_from(high, 0)
    check_from(size, 1)
    kind, window = floor
    signs = [[BARE] * wide for _ in range(high)]
    box = (left, 0, 1), (low, 0, 1), end_of(left, wide, size), end_of(low, high, size)
    for x, y in places_in(kind, window, box):
        column, line = column_of(kind, x, left, size), column_of(kind, y, low, size)
        # What is just at the right end or at the top belongs to the next square, which is not drawn.
        if column < wide and line < high:
            signs[line][column] = FULL
    return ["".join(told) for told in signs[::-1]]


def drawn_row(row, left, wide, size):
    """Return the text of signs that shows in which small stretches a row has members."""
    check_row(row)
    check_integer(left)
    check_from(wide, 0)
    check_from(size, 1)
    signs = [BARE] * wide
    for member in members_between(row, (left, 0, 1), end_of(left, wide, size)):
        column = column_of(row[0], member, left, size)
        if column < wide:
            signs[column] = FULL
    return "".join(signs)


def columns_within(kind, sides, line, size, wide):
    """Return the first and the last i of a line of points (i / size, line / size) that are in a window."""
    first, last = -wide, wide
    for across, up, off in sides:
        rest = pair_plus((up[0] * line, up[1] * line), (off[0] * size, off[1] * size))
        hand = pair_sign(kind, across)
        if hand > 0:
            # A point on this rim is in the window, one on the opposite rim is not.
            first = max(first, ceiled(kind, quotient(kind, (-rest[0], -rest[1]), across)))
        elif hand < 0:
            last = min(last, ceiled(kind, quotient(kind, rest, (-across[0], -across[1]))) - 1)
        elif pair_sign(kind, rest) < 0 or (pair_sign(kind, rest) == 0 and pair_sign(kind, up) < 0):
            return 0, -1
    return first, last


def drawn_window(floor, size, wide, high):
    """Return the rows of signs, the topmost first, that show which points are in the window of a floor."""
    check_floor(floor)
    check_from(size, 1)
    check_from(wide, 0)
    check_from(high, 0)
    kind, window = floor
    sides = sides_of(kind, window)
    rows = []
    for line in range(high, -high - 1, -1):
        first, last = columns_within(kind, sides, line, size, wide)
        rows.append("".join([FULL if first <= column <= last else BARE for column in range(-wide, wide + 1)]))
    return rows
