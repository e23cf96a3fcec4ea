"""Rows: the whole numbers whose mates are in a stretch, the gaps between them and the words of gaps."""

from quasifloors.checks import check_growing_unit, check_number, check_radius, check_row, is_integer
from quasifloors.checks import is_kind_and_ends, is_whole
from quasifloors.errors import InvalidMember, InvalidPair, InvalidWord, NotWithin, NoWord
from quasifloors.exact import multiplied, order_of, pair_mate, pair_minus, pair_plus, quotient, reduced
from quasifloors.walks import fillings_of, is_member_of, members_between, scaled_mate, scaled_pair, stretch_of_word
from quasifloors.walks import turn_at, turn_before, turns_of, walk, whole_in, word_stretches


def check_member(row, told):
    if not is_whole(told) or not is_member_of(row, told):
        raise InvalidMember(told)


def is_word(turns, told):
    """Tell whether a value of whatever sort is a tuple of indexes of gaps."""
    if not isinstance(told, tuple):
        return False
    for at in told:
        if not is_integer(at) or at < 0 or at >= len(turns):
            return False
    return True


def check_word(turns, told):
    if not is_word(turns, told):
        raise InvalidWord(told)


def length_of(row, scale):
    """Return the length of a row, times the scale, a pair."""
    return pair_minus(scaled_pair(row[2], scale), scaled_pair(row[1], scale))


def unscaled(stretch, scale):
    """Return the two numbers that the ends of a stretch are."""
    (a, b), (c, d) = stretch
    return reduced(a, b, scale), reduced(c, d, scale)


def is_row(told):
    """Tell whether a tuple of an integer and two numbers is a row."""
    return is_kind_and_ends(told)


def is_member(row, member):
    """Tell whether something, whatever it is, is a member of a row."""
    check_row(row)
    return is_whole(member) and is_member_of(row, member)


def members(row, left, right):
    """Return the list of the members from a number to another one, both ends too, ascending in size."""
    check_row(row)
    check_number(left)
    check_number(right)
    if order_of(row[0], left, right) > 0:
        raise InvalidPair((left, right))
    return members_between(row, left, right)


def next_member(row, member):
    """Return the least member that is greater than a member."""
    check_row(row)
    check_member(row, member)
    kind = row[0]
    scale, turns = turns_of(row)
    return pair_plus(member, turns[turn_at(kind, turns, scaled_mate(kind, member, scale))][0])


def last_member(row, member):
    """Return the greatest member that is less than a member."""
    check_row(row)
    check_member(row, member)
    kind = row[0]
    scale, turns = turns_of(row)
    return pair_minus(member, turn_before(kind, turns, scaled_mate(kind, member, scale))[0])


def gaps(row):
    """Return the list of (gap, share, (from, to)) of a row, ascending by the size of the gap."""
    check_row(row)
    scale, turns = turns_of(row)
    length = length_of(row, scale)
    return [(gap, quotient(row[0], pair_minus(end, start), length), unscaled((start, end), scale))
            for gap, shift, start, end in turns]


def word(row, member, n):
    """Return the tuple of the indexes of the n gaps from a member on."""
    check_row(row)
    check_member(row, member)
    check_radius(n)
    scale, turns = turns_of(row)
    return tuple(walk(row[0], scale, turns, member, n))


def part_in_row(row, told):
    """Return (from, to), the part of a word, None if it does not come; refuse what is no word."""
    kind, low, high = row
    scale, turns = turns_of(row)
    check_word(turns, told)
    stretch = stretch_of_word(kind, turns, scaled_pair(low, scale), scaled_pair(high, scale), told)
    return None if stretch is None else unscaled(stretch, scale)


def word_part(row, word):
    """Return (from, to), the part of a word, None if it does not come."""
    check_row(row)
    return part_in_row(row, word)


def words(row, n):
    """Return the ascending list of (word, share) of the words of n gaps that come."""
    check_row(row)
    check_radius(n)
    kind, low, high = row
    scale, turns = turns_of(row)
    length = length_of(row, scale)
    told = word_stretches(kind, turns, scaled_pair(low, scale), scaled_pair(high, scale), n)
    return sorted([(found, quotient(kind, pair_minus(end, start), length)) for found, start, end in told])


def found_word(row, word):
    """Return a member from which a word comes."""
    check_row(row)
    ends = part_in_row(row, word)
    if ends is None:
        raise NoWord(word)
    return whole_in(row[0], ends[0], ends[1])


def row_times(row, unit):
    """Return the row of the members of a row, times a unit."""
    kind, low, high = row
    shrink = pair_mate(kind, unit) + (1,)
    return kind, multiplied(kind, shrink, low), multiplied(kind, shrink, high)


def is_within(row, unit):
    """Tell whether a row lies within itself once it is stretched by a unit."""
    kind, low, high = row_times(row, unit)
    return order_of(kind, row[1], low) <= 0 and order_of(kind, high, row[2]) <= 0


def stretched_row(row, unit):
    """Return the row of the members of a row, times a unit."""
    check_row(row)
    check_growing_unit(row[0], unit)
    return row_times(row, unit)


def fillings(row, unit):
    """Return the list, for each gap, ascending in size, of the ascending tuple of its fillings."""
    check_row(row)
    check_growing_unit(row[0], unit)
    if not is_within(row, unit):
        raise NotWithin(row)
    return fillings_of(row, unit)


def only_fillings(row, unit):
    """Return the list of the one filling of each gap, None if the row does not grow of itself."""
    if not is_within(row, unit):
        return None
    told = fillings_of(row, unit)
    if max([len(found) for found in told]) > 1:
        return None
    return [found[0] for found in told]


def grows_itself(row, unit):
    """Tell whether a row lies within itself, stretched by a unit, and each gap has just one filling."""
    check_row(row)
    check_growing_unit(row[0], unit)
    return only_fillings(row, unit) is not None


def grown_word(row, unit, word):
    """Return the word that comes if each gap of a word has its filling in its place."""
    check_row(row)
    check_growing_unit(row[0], unit)
    check_word(turns_of(row)[1], word)
    told = only_fillings(row, unit)
    if told is None:
        raise NotWithin(row)
    indexes = []
    for at in word:
        indexes += told[at]
    return tuple(indexes)
