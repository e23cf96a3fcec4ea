"""Numbers, places, floors and rows, shown as texts. What is handed in is right."""


def show_number(p):
    a, b, n = p
    if b == 0:
        text = f"{a}"
    else:
        sign = "+" if b > 0 else "-"
        text = f"{a}{sign}{abs(b)}w"
    if n == 1:
        return text
    return f"{text}/{n}" if b == 0 else f"({text})/{n}"


def show_whole(pair):
    a, b = pair
    return show_number((a, b, 1))


def show_point(point):
    x, y = point
    return f"{show_number(x)} {show_number(y)}"


def show_place(place):
    x, y = place
    return f"{show_whole(x)} {show_whole(y)}"


def show_places(places):
    """Return the text of a list or tuple of places."""
    if len(places) == 0:
        return "-"
    return ", ".join([show_place(place) for place in places])


def show_floor(floor):
    kind, window = floor
    return "\n".join([f"floor {kind}"] + [show_point(corner) for corner in window])


def show_row(row):
    kind, low, high = row
    return f"row {kind} {show_number(low)} {show_number(high)}"


def show_word(word):
    """Return the text of a list or tuple of indexes."""
    if len(word) == 0:
        return "-"
    return " ".join([str(at) for at in word])
