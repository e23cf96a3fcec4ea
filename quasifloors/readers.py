"""Texts as texts.py shows them, read back."""

from quasifloors.checks import is_kind_and_ends, is_kind_and_window
from quasifloors.errors import Unreadable
from quasifloors.parsing import kind_in, number_in, place_in, all_places_in, point_in, row_in, word_in


def only_line(text, reading):
    """Return what the one line of a text says."""
    lines = text.split("\n")
    found = reading(lines[0])
    if found is None:
        raise Unreadable(1)
    if len(lines) > 1:
        raise Unreadable(2)
    return found


def read_number(text):
    return only_line(text, number_in)


def read_point(text):
    return only_line(text, point_in)


def read_place(text):
    return only_line(text, place_in)


def read_places(text):
    """Return the tuple of the places of a text, in its sequence."""
    return only_line(text, all_places_in)


def read_floor(text):
    lines = text.split("\n")
    kind = kind_in(lines[0])
    if kind is None:
        raise Unreadable(1)
    corners = []
    for at, line in enumerate(lines[1:]):
        corner = point_in(line)
        if corner is None:
            raise Unreadable(at + 2)
        corners.append(corner)
    floor = (kind, tuple(corners))
    if not is_kind_and_window(floor):
        raise Unreadable(0)
    return floor


def read_row(text):
    row = only_line(text, row_in)
    if not is_kind_and_ends(row):
        raise Unreadable(0)
    return row


def read_word(text):
    """Return the tuple of the indexes of a text."""
    return only_line(text, word_in)
