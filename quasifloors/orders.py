"""What an order of a console says, and the answers to those that ask for something."""

from quasifloors.alikes import alike
from quasifloors.floors import density, has
from quasifloors.parsing import words_in
from quasifloors.patches import patches
from quasifloors.pictures import drawn
from quasifloors.returns import again
from quasifloors.rows import gaps, words
from quasifloors.rules import grows
from quasifloors.texts import show_floor, show_number, show_places, show_point, show_row, show_whole, show_word

# What stands behind the first word of an order: the name of a new thing, of an old one (whatever it is), of a thing
# that is to be shown, of a floor, of a row; or something that is read.
FORMS = {
    "row": ("new", "integer", "number", "number"),
    "moved": ("new", "floor", "whole", "whole"),
    "stretched": ("new", "floor", "whole"),
    "long": ("new", "row", "whole"),
    "drop": ("old",),
    "undo": (),
    "show": ("thing",),
    "has": ("floor", "whole", "whole"),
    "density": ("floor",),
    "patches": ("floor", "integer"),
    "again": ("floor", "integer", "places"),
    "alike": ("floor", "floor"),
    "grows": ("floor", "whole", "integer"),
    "gaps": ("row",),
    "words": ("row", "integer"),
    "drawn": ("floor", "integer", "integer", "integer", "integer", "integer"),
    "names": (),
}
NAMES = ("new", "old", "thing", "floor", "row")


def values_in(line):
    """Return (word, values) of an order of one line, None if it is none."""
    word, blank, rest = line.partition(" ")
    if word not in FORMS:
        return None
    form = FORMS[word]
    if form == ():
        return (word, []) if blank == "" else None
    values = words_in(rest, ["name" if sort in NAMES else sort for sort in form])
    return None if values is None else (word, values)


def order_in(text):
    """Return (word, values) of an order, None if it is none; a floor's values are its name and the lines behind."""
    if not isinstance(text, str):
        return None
    first, newline, rest = text.partition("\n")
    word, _, name = first.partition(" ")
    if word == "floor":
        told = words_in(name, ("name",))
        return None if told is None or newline == "" else (word, [name, rest])
    return None if newline != "" else values_in(first)


def yes_or_no(told):
    return "yes" if told else "no"


def tell_show(told):
    what, thing = told[0]
    return show_floor(thing) if what == "floor" else show_row(thing)


def tell_has(told):
    floor, x, y = told
    return yes_or_no(has(floor, (x, y)))


def tell_density(told):
    return show_number(density(told[0]))


def tell_patches(told):
    floor, r = told
    return "\n".join([f"{show_number(share)} : {show_places(patch)}" for patch, share in patches(floor, r)])


def tell_again(told):
    floor, r, patch = told
    return str(again(floor, r, patch))


def tell_alike(told):
    one, other = told
    point = alike(one, other)
    return "no" if point is None else show_point(point)


def tell_grows(told):
    floor, unit, r = told
    return yes_or_no(grows(floor, unit, r))


def tell_gaps(told):
    return "\n".join([f"{show_whole(gap)} {show_number(share)}" for gap, share, part in gaps(told[0])])


def tell_words(told):
    row, n = told
    return "\n".join([f"{show_number(share)} : {show_word(word)}" for word, share in words(row, n)])


def tell_drawn(told):
    floor, left, low, wide, high, size = told
    return "\n".join(drawn(floor, left, low, wide, high, size))


ANSWERS = {"show": tell_show, "has": tell_has, "density": tell_density, "patches": tell_patches, "again": tell_again,
           "alike": tell_alike, "grows": tell_grows, "gaps": tell_gaps, "words": tell_words, "drawn": tell_drawn}


def is_asking(word):
    return word in ANSWERS


def answer(word, told):
    """Return the answer to an order that asks for something."""
    telling = ANSWERS[word]
    return telling(told)
