"""Texts, put together anew and taken apart by patterns."""

import re

INTEGER = r"(?:0|-?[1-9][0-9]{0,8})"
WHOLE = r"(?P<a>%s)(?:(?P<sign>[+-])(?P<b>[1-9][0-9]{0,8})w)?" % INTEGER
BROKEN = r"\(%s\)/(?P<n>[1-9][0-9]{0,8})" % WHOLE
PLAIN = r"(?P<a>%s)/(?P<n>[1-9][0-9]{0,8})" % INTEGER
PATTERNS = [WHOLE, BROKEN, PLAIN]


def number(p):
    a, b, n = p
    top = str(a) + (("+" if b > 0 else "-") + str(b).lstrip("-") + "w" if b else "")
    if n == 1:
        return top
    return ("(" + top + ")" if b else top) + "/" + str(n)


def whole(pair):
    return number(pair + (1,))


def point(told):
    return " ".join(map(number, told))


def place(told):
    return " ".join(map(whole, told))


def places(told):
    return ", ".join(map(place, told)) or "-"


def word(told):
    return " ".join(map(str, told)) or "-"


def row(told):
    return " ".join(["row", str(told[0]), number(told[1]), number(told[2])])


def floor(told):
    return "\n".join(["floor " + str(told[0])] + [point(corner) for corner in told[1]])


def number_of(text):
    """The number of a text, None if it is none: by patterns, and without common divisors."""
    for pattern in PATTERNS:
        found = re.fullmatch(pattern, text)
        if found is None:
            continue
        parts = found.groupdict()
        a, n = int(parts["a"]), int(parts.get("n") or 1)
        b = int((parts.get("sign") or "") + (parts.get("b") or "0"))
        if n == 1 and parts.get("n"):
            return None
        if pattern is BROKEN and b == 0:
            return None
        if greatest(greatest(abs(a), abs(b)), n) == 1:
            return a, b, n
    return None


def greatest(one, other):
    while other:
        one, other = other, one % other
    return one


def both(text, reading):
    parts = re.fullmatch(r"([^ ]*) ([^ ]*)", text)
    told = [reading(part) for part in parts.groups()] if parts else [None]
    return None if None in told else tuple(told)


def whole_of(text):
    found = number_of(text)
    return None if found is None or found[2] != 1 else found[:2]


def point_of(text):
    return both(text, number_of)


def place_of(text):
    return both(text, whole_of)


def places_of(text):
    if text == "-":
        return ()
    told = [place_of(part) for part in re.split(", ", text)]
    return None if None in told else tuple(told)


def word_of(text):
    if text == "-":
        return ()
    if not re.fullmatch(r"(?:0|[1-9][0-9]{0,8})(?: (?:0|[1-9][0-9]{0,8}))*", text):
        return None
    return tuple(map(int, text.split()))


def row_of(text):
    found = re.fullmatch(r"row (%s) ([^ ]*) ([^ ]*)" % INTEGER, text)
    told = [int(found[1]), number_of(found[2]), number_of(found[3])] if found else [None]
    return None if None in told else tuple(told)


def kind_of(text):
    found = re.fullmatch(r"floor (%s)" % INTEGER, text)
    return int(found[1]) if found else None


def nearly(text):
    """Texts that are nearly the same: a sign less, twice, another one there, and some before or behind."""
    signs = "0123456789+-w/(), \n a"
    found = set()
    for k in range(len(text) + 1):
        found.add(text[:k] + text[k + 1:])
        found.add(text[:k] + text[k:k + 1] + text[k:])
        for sign in signs:
            found.add(text[:k] + sign + text[k + 1:])
            found.add(text[:k] + sign + text[k:])
    return sorted(found)
