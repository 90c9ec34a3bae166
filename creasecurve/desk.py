"""The desk: it keeps roofs by names, is told rows of words, and answers each with a text."""

from creasecurve.errors import NoName, NoRow
from creasecurve.fields import fields
from creasecurve.hulls import area
from creasecurve.meetings import meetings
from creasecurve.roofs import height_at
from creasecurve.sums import added, greater, moved, raised
from creasecurve.texts import LETTERS, is_number, number_of, number_text, read, written
from creasecurve.thinning import thinned

MOST_LETTERS = 8
# What stands behind the first word of a row: the new name of what is kept, a name that is kept, a number, a text.
FORMS = {
    "let": ("new", "text"),
    "thin": ("new", "kept"),
    "add": ("new", "kept", "kept"),
    "greater": ("new", "kept", "kept"),
    "raise": ("new", "kept", "number"),
    "move": ("new", "kept", "number", "number"),
    "show": ("kept",),
    "height": ("kept", "number", "number"),
    "corners": ("kept",),
    "meet": ("kept", "kept"),
    "same": ("kept", "kept"),
    "names": (),
}


def is_name(word):
    return 1 <= len(word) <= MOST_LETTERS and all([sign in LETTERS for sign in word])


def fits(word, part):
    if part == "text":
        return True
    return is_number(word) if part == "number" else is_name(word)


def words_of(thing):
    if not isinstance(thing, str):
        raise NoRow("a row is a text")
    # The text behind a name has blanks of its own.
    words = thing.split(" ", 2) if thing.startswith("let ") else thing.split(" ")
    if words[0] not in FORMS:
        raise NoRow("no row begins so")
    form = FORMS[words[0]]
    if len(words) != len(form) + 1 or not all([fits(word, part) for word, part in zip(words[1:], form)]):
        raise NoRow("the words behind the first one are not so made")
    return words


def point_of(words):
    return (number_of(words[0]), number_of(words[1]))


def new_roof(words, roofs):
    if words[0] == "let":
        return read(words[2])
    roof = roofs[words[2]]
    if words[0] == "thin":
        return thinned(roof)
    if words[0] == "raise":
        return raised(roof, number_of(words[3]))
    if words[0] == "move":
        return moved(roof, point_of(words[3:]))
    other = roofs[words[3]]
    return added(roof, other) if words[0] == "add" else greater(roof, other)


def point_text(point):
    return number_text(point[0]) + "," + number_text(point[1])


def counted(rows):
    if len(rows) == 0:
        return "none"
    return " ".join([point_text(point) + ":" + str(count) for point, count in rows])


def answer_of(words, roofs):
    if words[0] == "names":
        return " ".join(sorted(roofs))
    roof = roofs[words[1]]
    if words[0] == "show":
        return written(roof)
    if words[0] == "height":
        return number_text(height_at(roof, point_of(words[2:])))
    if words[0] == "corners":
        return counted([(corner, area(field)) for corner, field in fields(roof)])
    other = roofs[words[2]]
    if words[0] == "meet":
        return counted(meetings(roof, other))
    return "yes" if thinned(roof) == thinned(other) else "no"


class Desk:
    def __init__(self):
        self.roofs = {}

    def tell(self, thing):
        words = words_of(thing)
        form = FORMS[words[0]]
        for word, part in zip(words[1:], form):
            if part == "kept" and word not in self.roofs:
                raise NoName(word)
        if "new" not in form:
            return answer_of(words, self.roofs)
        roof = new_roof(words, self.roofs)
        self.roofs[words[1]] = roof
        return "planes " + str(len(roof))
