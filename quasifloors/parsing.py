"""What a line says, as texts.py shows it: None if it does not say it just so."""

from quasifloors.checks import is_in_form
from quasifloors.texts import show_number

DIGITS = "0123456789"
LETTERS = "abcdefghijklmnopqrstuvwxyz"


def is_all_of(text, signs):
    """Tell whether a text has some signs, and no other ones."""
    for sign in text:
        if sign not in signs:
            return False
    return text != ""


def is_name(told):
    """Tell whether a value of whatever sort is a name of one to eight letters."""
    return isinstance(told, str) and len(told) <= 8 and is_all_of(told, LETTERS)


def integer_in(text):
    digits = text[1:] if text.startswith("-") else text
    if len(digits) > 9 or not is_all_of(digits, DIGITS):
        return None
    found = int(text)
    return found if str(found) == text else None


def sum_in(text):
    """Return the integers (a, b) of a text A, A+Bw or A-Bw, each None where there is none."""
    if not text.endswith("w"):
        return integer_in(text), 0
    at = max(text.rfind("+"), text.rfind("-"))
    if at < 1:
        return None, None
    a, b = integer_in(text[:at]), integer_in(text[at + 1:-1])
    if b is not None and text[at] == "-":
        b = -b
    return a, b


def number_in(text):
    top, stroke, bottom = text.partition("/")
    n = integer_in(bottom) if stroke else 1
    inner = top[1:-1] if top.startswith("(") and top.endswith(")") else top
    a, b = sum_in(inner)
    found = (a, b, n)
    # However it was read: it is to be just the text by which the number is shown.
    return found if is_in_form(found) and show_number(found) == text else None


def whole_in(text):
    found = number_in(text)
    if found is None or found[2] != 1:
        return None
    return found[:2]


def both_in(texts, reading):
    """Return the pair of what two texts say, each read alike; None if they are not two."""
    if len(texts) != 2:
        return None
    x, y = reading(texts[0]), reading(texts[1])
    return None if x is None or y is None else (x, y)


def point_in(text):
    return both_in(text.split(" "), number_in)


def place_in(text):
    return both_in(text.split(" "), whole_in)


def all_in(texts, reading):
    """Return the tuple of what some texts say, each read alike."""
    found = []
    for text in texts:
        told = reading(text)
        if told is None:
            return None
        found.append(told)
    return tuple(found)


def all_places_in(text):
    return () if text == "-" else all_in(text.split(", "), place_in)


def index_in(text):
    found = integer_in(text)
    return None if found is None or found < 0 else found


def word_in(text):
    return () if text == "-" else all_in(text.split(" "), index_in)


def kind_in(text):
    """Return the integer of the first line of a floor."""
    word, _, rest = text.partition(" ")
    return integer_in(rest) if word == "floor" else None


def name_in(text):
    return text if is_name(text) else None


READINGS = {"name": name_in, "whole": whole_in, "integer": integer_in, "number": number_in, "places": all_places_in}


def words_in(text, sorts):
    """Return the list of what a text says: things of some sorts, with blanks between; the last one may have blanks."""
    parts = text.split(" ", len(sorts) - 1)
    if len(parts) != len(sorts):
        return None
    found = []
    for part, sort in zip(parts, sorts):
        reading = READINGS[sort]
        found.append(reading(part))
    return None if None in found else found


def row_in(text):
    """Return (kind, low, high) of the line of a row."""
    word, _, rest = text.partition(" ")
    found = words_in(rest, ("integer", "number", "number"))
    return None if word != "row" or found is None else tuple(found)
