"""What several test files need: sample roofs, reckoning with Python's own fractions, and a look at who owns a list."""

import copy
from fractions import Fraction

ALL_SLOPES = [(i, j) for i in range(9) for j in range(9)]
LONG = 10 ** 27


def real(a):
    return Fraction(a[0], a[1])


def told(value):
    value = Fraction(value)
    return (value.numerator, value.denominator)


def at(x, y):
    return (told(x), told(y))


def plane(i, j, height):
    return (i, j, told(height))


def height_of(one, point):
    return one[0] * real(point[0]) + one[1] * real(point[1]) + real(one[2])


def chances(seed):
    """A row of numbers without end that looks like chance and is the same each time."""
    state = seed
    while True:
        state = (state * 6364136223846793005 + 1442695040888963407) % 2 ** 64
        yield state >> 33


def some_slopes(row, count, slopes):
    left = list(slopes)
    taken = []
    while left and len(taken) < count:
        taken.append(left.pop(next(row) % len(left)))
    return sorted(taken)


def long_number(row):
    digits = 0
    while digits < LONG:
        digits = digits * 2 ** 31 + next(row)
    return digits % LONG + LONG


def made_roof(seed, count, slopes, kind):
    row = chances(seed)
    planes = []
    for i, j in some_slopes(row, count, slopes):
        if kind == "flat":
            height = Fraction(next(row) % 2)
        elif kind == "bowl":
            height = Fraction(-(i * i + j * j) + next(row) % 3, 1 + next(row) % 2)
        elif kind == "dome":
            height = -(Fraction(i) - 4) ** 2 - (Fraction(j) - 3) ** 2 + Fraction(next(row) % 7, 11)
        else:
            height = Fraction(-(i * i + j * j)) + Fraction(long_number(row), long_number(row))
        planes.append(plane(i, j, height))
    return planes


def sample_roofs():
    """Roofs of one to sixteen planes: many and few struck out, like heights, slopes on one line, long heights."""
    on_a_line = [[(i, i) for i in range(9)], [(i, 8 - i) for i in range(9)], [(3, j) for j in range(9)],
                 [(i, 5) for i in range(9)], [(2 * i, i) for i in range(5)]]
    small = [(i, j) for i in range(3) for j in range(3)]
    roofs = []
    seed = 0
    for kind in ("flat", "bowl", "dome", "long"):
        for slopes in [ALL_SLOPES, small] + on_a_line:
            for count in (1, 2, 3, 4, 6, 9, 16):
                seed += 1
                roofs.append(made_roof(seed, count, slopes, kind))
    return roofs


def spoil(thing):
    """Changes every list and dict within a thing, as far down as there are any."""
    if isinstance(thing, dict):
        inner = list(thing.values())
        thing.clear()
    elif isinstance(thing, (list, tuple)):
        inner = list(thing)
    else:
        inner = []
    for part in inner:
        spoil(part)
    if isinstance(thing, list):
        thing.clear()
        thing.append("spoilt")


def check_own(test, function, *handed):
    """What was handed in stays as it was, what was told is the asker's own."""
    kept = copy.deepcopy(handed)
    first = function(*handed)
    test.assertEqual(handed, kept)
    expected = copy.deepcopy(first)
    spoil(first)
    test.assertEqual(handed, kept)
    second = function(*handed)
    test.assertEqual(second, expected)
    spoil(handed)
    test.assertEqual(second, expected)
    test.assertEqual(function(*kept), expected)
