"""What several test files need: sample roofs, reckoning with Python's own fractions, and a look at who owns a list."""

import copy
import itertools
from fractions import Fraction

from creasecurve.errors import RoofError

ALL_SLOPES = [(i, j) for i in range(9) for j in range(9)]
LONG = 10 ** 27
BIG = 10 ** 59


def real(a):
    return Fraction(a[0], a[1])


def told(value):
    value = Fraction(value)
    return (value.numerator, value.denominator)


def at(x, y):
    return (told(x), told(y))


def plane(i, j, height):
    return (i, j, told(height))


def slopes_of(roof):
    return [one[:2] for one in roof]


def height_of(one, point):
    return one[0] * real(point[0]) + one[1] * real(point[1]) + real(one[2])


def shift(point, step):
    return at(real(point[0]) + real(step[0]), real(point[1]) + real(step[1]))


def chances(seed):
    """A row of numbers without end that looks like chance and is the same each time."""
    state = seed
    while True:
        state = (state * 6364136223846793005 + 1442695040888963407) % 2 ** 64
        yield state >> 33


def some_slopes(row, count, slopes):
    left = list(slopes)
    taken = []
    while left and len(taken) < count:
        taken.append(left.pop(next(row) % len(left)))
    return sorted(taken)


def long_number(row):
    digits = 0
    while digits < LONG:
        digits = digits * 2 ** 31 + next(row)
    return digits % LONG + LONG


def made_roof(seed, count, slopes, kind):
    row = chances(seed)
    planes = []
    for i, j in some_slopes(row, count, slopes):
        if kind == "flat":
            height = Fraction(next(row) % 2)
        elif kind == "bowl":
            height = Fraction(-(i * i + j * j) + next(row) % 3, 1 + next(row) % 2)
        elif kind == "dome":
            height = -(Fraction(i) - 4) ** 2 - (Fraction(j) - 3) ** 2 + Fraction(next(row) % 7, 11)
        else:
            height = Fraction(-(i * i + j * j)) + Fraction(long_number(row), long_number(row))
        planes.append(plane(i, j, height))
    return planes


def sample_roofs():
    """Roofs of one to sixteen planes: many and few struck out, like heights, slopes on one line, long heights."""
    on_a_line = [[(i, i) for i in range(9)], [(i, 8 - i) for i in range(9)], [(3, j) for j in range(9)],
                 [(i, 5) for i in range(9)], [(2 * i, i) for i in range(5)]]
    small = [(i, j) for i in range(3) for j in range(3)]
    roofs = []
    seed = 0
    for kind in ("flat", "bowl", "dome", "long"):
        for slopes in [ALL_SLOPES, small] + on_a_line:
            for count in (1, 2, 3, 4, 6, 9, 16):
                seed += 1
                roofs.append(made_roof(seed, count, slopes, kind))
    return roofs


def rows_of(pairs):
    return [(slope, told(height)) for slope, height in pairs]


def sample_lines():
    lines = [rows_of([(0, 0)]), rows_of([(-7, "1/3")]), rows_of([(0, 0), (1, 0), (2, 0)]),
             rows_of([(0, 0), (1, -1), (2, 0)]), rows_of([(0, 0), (1, "1/9"), (2, 0)]),
             rows_of([(-9, -5), (-2, "1/2"), (0, 1), (3, "1/7"), (4, -20)]),
             rows_of([(-10 ** 59, 10 ** 59), (0, Fraction(1, 10 ** 59)), (1, 0), (10 ** 59, Fraction(-7, 3))])]
    for seed in range(60):
        row = chances(seed)
        slopes = some_slopes(row, 1 + next(row) % 9, range(-8, 9))
        if seed % 3 == 0:
            heights = [Fraction(next(row) % 4) for slope in slopes]
        elif seed % 3 == 1:
            heights = [Fraction(next(row) % 30 - slope * slope, 1 + next(row) % 5) for slope in slopes]
        else:
            heights = [Fraction(long_number(row), long_number(row)) - slope * slope for slope in slopes]
        lines.append(rows_of(zip(slopes, heights)))
    return lines


def tuple_lists():
    """Lists of one to a hundred tuples of two whole numbers, few and many figures long, some of them alike."""
    lists = []
    for seed in range(120):
        row = chances(seed)
        count = 1 + next(row) % (100 if seed % 4 == 0 else 9)
        wide = (3, 9, 40, 2 * BIG)[seed % 4]
        numbers = [next(row) * 7 ** 70 % wide - wide // 2 for k in range(2 * count)]
        lists.append(list(zip(numbers[::2], numbers[1::2])))
    return lists


def long_roof(figures):
    """Sixteen planes, most of which stay, whose heights have about so many figures at top and bottom."""
    whole = 10 ** figures
    return [plane(i, j, Fraction(-(i * i + j * j) * (whole // 128) - i, whole - 1 - 3 * j))
            for i, j in ALL_SLOPES[::5][:16]]


def level_at(a, b, c):
    """The one point where three planes are level, or None where their slopes lie on one line."""
    p, q, e = b[0] - a[0], b[1] - a[1], real(a[2]) - real(b[2])
    r, s, f = c[0] - a[0], c[1] - a[1], real(a[2]) - real(c[2])
    area = p * s - q * r
    return None if area == 0 else (Fraction(e * s - q * f) / area, Fraction(p * f - e * r) / area)


def expected_corners(roof):
    found = set()
    for group in itertools.combinations(roof, 3):
        point = level_at(*group)
        if point is not None:
            heights = [one[0] * point[0] + one[1] * point[1] + real(one[2]) for one in roof]
            if max(heights) == heights[roof.index(group[0])]:
                found.add(point)
    return [at(x, y) for x, y in sorted(found)]


def inner_point(piece, roof):
    """A point of a piece that is none of its ends."""
    one, other, ends, step, weight = piece
    if len(ends) == 2:
        (x, y), (z, w) = [(real(a), real(b)) for a, b in ends]
        return (x * 2 + z) / 3, (y * 2 + w) / 3
    if len(ends) == 1:
        return real(ends[0][0]) + step[0] * Fraction(2, 5), real(ends[0][1]) + step[1] * Fraction(2, 5)
    heights = {entry[:2]: real(entry[2]) for entry in roof}
    a, b, rise = other[0] - one[0], other[1] - one[1], heights[one] - heights[other]
    return (rise / a, Fraction(0)) if a != 0 else (Fraction(0), rise / b)


def turn(a, b, c):
    return (b[0] - a[0]) * (c[1] - a[1]) - (b[1] - a[1]) * (c[0] - a[0])


def lies_between(a, b, c):
    return turn(a, b, c) == 0 and min(a, b) <= c <= max(a, b)


def sides(slopes):
    """All sides of a hull by a slow way, against the clock; where all are on one line its one side, there and back."""
    unlike = sorted(set(slopes))
    return [(a, b) for a, b in itertools.permutations(unlike, 2)
            if all(turn(a, b, c) > 0 or lies_between(a, b, c) for c in unlike)]


def expected_mixed(slopes, others):
    """By another way than the document's: how far the others reach out over each side, times the side's length."""
    return sum(max((b[1] - a[1]) * other[0] - (b[0] - a[0]) * other[1] for other in others) for a, b in sides(slopes))


def refused(test, kind, function, *handed):
    """The refusal, which is of just this class."""
    with test.assertRaises(RoofError) as taken:
        function(*handed)
    test.assertIs(type(taken.exception), kind)
    return taken.exception


def spoil(thing):
    """Changes every list and dict within a thing, as far down as there are any."""
    if isinstance(thing, dict):
        inner = list(thing.values())
        thing.clear()
    elif isinstance(thing, (list, tuple)):
        inner = list(thing)
    else:
        inner = []
    for part in inner:
        spoil(part)
    if isinstance(thing, list):
        thing.clear()
        thing.append("spoilt")


def check_own(test, function, *handed):
    """What was handed in stays as it was, what was told is the asker's own."""
    kept = copy.deepcopy(handed)
    first = function(*handed)
    test.assertEqual(handed, kept)
    expected = copy.deepcopy(first)
    spoil(first)
    test.assertEqual(handed, kept)
    second = function(*handed)
    test.assertEqual(second, expected)
    spoil(handed)
    test.assertEqual(second, expected)
    test.assertEqual(function(*kept), expected)
