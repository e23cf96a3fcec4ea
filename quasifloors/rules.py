"""Growing rules: by which steps the places of a floor, stretched by a unit, lead to places of it again."""

from quasifloors.checks import check_floor, check_growing_unit, check_radius, is_pair_of_wholes
from quasifloors.errors import InvalidRule, NotInFloor
from quasifloors.growing import parts_with_steps, place_of_none, places_grown
from quasifloors.shapes import sides_of
from quasifloors.windows import is_of


def check_growth(floor, unit, r):
    check_floor(floor)
    check_growing_unit(floor[0], unit)
    check_radius(r)


def are_places(told):
    """Tell whether a value of whatever sort is a tuple of places."""
    if not isinstance(told, tuple):
        return False
    for place in told:
        if not is_pair_of_wholes(place):
            return False
    return True


def is_like_a_rule(told):
    """Tell whether a value of whatever sort is a tuple of pairs of tuples of places."""
    if not isinstance(told, tuple):
        return False
    for pair in told:
        if not isinstance(pair, tuple) or len(pair) != 2 or not are_places(pair[0]) or not are_places(pair[1]):
            return False
    return True


def rule(floor, unit, r):
    """Return the growing rule: the ascending tuple of (patch, steps) for all patches that come."""
    check_growth(floor, unit, r)
    kind, window = floor
    told = parts_with_steps(kind, window, unit, r)
    return tuple([(patch, steps) for patch, shapes, steps in told])


def grows(floor, unit, r):
    """Tell whether each place of the floor comes of some place by the rule."""
    return ungrown(floor, unit, r) is None


def ungrown(floor, unit, r):
    """Return a place of the floor that comes of none by the rule, None if there is none."""
    check_growth(floor, unit, r)
    kind, window = floor
    return place_of_none(kind, window, unit, r)


def grown(floor, unit, r, some):
    """Return the ascending tuple of the places that come of some places of the floor by the rule."""
    check_growth(floor, unit, r)
    kind, window = floor
    sides = sides_of(kind, window)
    for place in some:
        if not is_pair_of_wholes(place) or not is_of(kind, sides, place):
            raise NotInFloor(place)
    return places_grown(kind, window, unit, r, some)


def is_rule(floor, unit, r, told):
    """Tell whether a tuple of pairs of tuples of places is the growing rule."""
    check_growth(floor, unit, r)
    if not is_like_a_rule(told):
        raise InvalidRule(told)
    return told == rule(floor, unit, r)
