"""Numbers and roofs as texts."""

from creasecurve.errors import NoNumber, NoText
from creasecurve.fractions import greatest_divisor
from creasecurve.roofs import roof_of

FIGURES = "0123456789"
LETTERS = "abcdefghijklmnopqrstuvwxyz"
MOST_FIGURES = 30
SLOPE_FIGURES = "012345678"


def is_whole(word):
    # Python's own isdigit and int take signs that are no figures here, so each sign is looked at.
    if len(word) == 0 or len(word) > MOST_FIGURES or not all([sign in FIGURES for sign in word]):
        return False
    return word == "0" or word[0] != "0"


def is_top(word):
    if word.startswith("-"):
        return word != "-0" and is_whole(word[1:])
    return is_whole(word)


def is_bottom(word):
    return word not in ("0", "1") and is_whole(word)


def is_number(thing):
    if not isinstance(thing, str):
        return False
    parts = thing.split("/")
    if len(parts) == 1:
        return is_top(thing)
    if len(parts) > 2 or not is_top(parts[0]) or not is_bottom(parts[1]):
        return False
    return greatest_divisor(int(parts[0]), int(parts[1])) == 1


def number_of(word):
    if not is_number(word):
        raise NoNumber("a number is written as TOP or TOP/BOTTOM, in lowest terms, with at most thirty figures each")
    parts = word.split("/")
    bottom = 1 if len(parts) == 1 else int(parts[1])
    return (int(parts[0]), bottom)


def number_text(a):
    top = str(a[0])
    return top if a[1] == 1 else top + "/" + str(a[1])


def is_slope_figure(word):
    return len(word) == 1 and word in SLOPE_FIGURES


def is_plane(part):
    words = part.split(" ")
    return len(words) == 3 and is_slope_figure(words[0]) and is_slope_figure(words[1]) and is_number(words[2])


def plane_of(part):
    words = part.split(" ")
    return (int(words[0]), int(words[1]), number_of(words[2]))


def read(thing):
    if not isinstance(thing, str):
        raise NoText(-1)
    parts = thing.split("; ")
    for at, part in enumerate(parts):
        if not is_plane(part):
            raise NoText(at)
    return roof_of([plane_of(part) for part in parts])


def plane_text(plane):
    return " ".join([str(plane[0]), str(plane[1]), number_text(plane[2])])


def written(roof):
    return "; ".join([plane_text(plane) for plane in roof])
