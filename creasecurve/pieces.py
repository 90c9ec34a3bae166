"""Pieces: the stretches, rays and lines along which two planes of a roof meet, and how they leave a corner."""

from creasecurve.bends import bends
from creasecurve.errors import NoCorner
from creasecurve.fractions import fraction, greatest_divisor, plus, times
from creasecurve.hulls import hull
from creasecurve.lines import along
from creasecurve.roofs import blown_up, plane_height, shrunk, slope_of, whole_factor
from creasecurve.thinning import thinned
from creasecurve.tops import tops


def weight_of(one, other):
    return greatest_divisor(other[0] - one[0], other[1] - one[1])


def step_of(one, other):
    # The way from one slope to the other, turned to the right: along it both planes rise alike.
    weight = weight_of(one, other)
    return ((other[1] - one[1]) // weight, (one[0] - other[0]) // weight)


def turned_round(step):
    return (-step[0], -step[1])


def level_point(one, other):
    # Of the points where two planes with whole heights are level, the one next to (0, 0).
    a = other[0] - one[0]
    b = other[1] - one[1]
    rise = other[2][0] - one[2][0]
    square = a * a + b * b
    return (fraction(-a * rise, square), fraction(-b * rise, square))


def gone(point, step, t):
    return (plus(point[0], times((step[0], 1), t)), plus(point[1], times((step[1], 1), t)))


def piece_of(planes, one, other, factor):
    # Along the line where both are level they are on top for more than a point just where their tuple is one of the
    # thinned line roof, and then from the bend ahead of it to the bend behind it.
    onward = max(step_of(one, other), step_of(other, one))
    start = level_point(one, other)
    line = along(planes, start, onward)
    row = (one[0] * onward[0] + one[1] * onward[1], plane_height(one, start))
    if row not in line:
        return None
    k = line.index(row)
    places = [place for place, weight in bends(line)[2]]
    ends = [shrunk(gone(start, onward, place), factor) for place in places[max(k - 1, 0):k + 1]]
    comes_from_afar = k == 0 and len(ends) == 1
    step = turned_round(onward) if comes_from_afar else onward
    return (slope_of(one), slope_of(other), ends, step, weight_of(one, other))


def pieces(roof):
    stay = thinned(roof)
    factor = whole_factor(stay)
    planes = blown_up(stay, factor)
    found = []
    for k, one in enumerate(planes):
        found.extend([piece_of(planes, one, other, factor) for other in planes[k + 1:]])
    return [piece for piece in found if piece is not None]


def leaving(roof, point):
    field = hull(tops(roof, point))
    if len(field) < 3:
        raise NoCorner("not all slopes on top at a corner lie on one line")
    # Square to each side of the field, away from it, a piece leaves the corner: there the planes at both ends of the
    # side are on top, and no other one that stays.
    sides = [(field[k - 1], field[k]) for k in range(len(field))]
    return sorted([(step_of(one, other), weight_of(one, other)) for one, other in sides])
