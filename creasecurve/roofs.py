"""Roofs: lists of planes (i, j, height) with unlike slopes, in the order of their slopes."""

from creasecurve.errors import NoRoof, TooMany, TooSteep
from creasecurve.fractions import common_bottom, fraction, greatest, less, plus, times, whole

STEEPEST = 8
MOST_PLANES = 16


def slope_of(plane):
    return (plane[0], plane[1])


def plane_height(plane, point):
    along_x = times((plane[0], 1), point[0])
    along_y = times((plane[1], 1), point[1])
    return plus(plus(along_x, along_y), plane[2])


def height_at(roof, point):
    return greatest([plane_height(plane, point) for plane in roof])


def is_too_steep(slope):
    return min(slope) < 0 or max(slope) > STEEPEST


def highest_by_slope(rows):
    highest = {}
    for slope, height in rows:
        if slope not in highest or less(highest[slope], height):
            highest[slope] = height
    return highest


def roof_of(planes):
    if len(planes) == 0:
        raise NoRoof("a roof has one plane or more")
    # All slopes are looked at ahead of the count, since TooSteep goes before TooMany.
    if any([is_too_steep(slope_of(plane)) for plane in planes]):
        raise TooSteep("a slope has two numbers from 0 to 8")
    highest = highest_by_slope([(slope_of(plane), plane[2]) for plane in planes])
    if len(highest) > MOST_PLANES:
        raise TooMany("a roof has at most sixteen unlike slopes")
    return [(slope[0], slope[1], highest[slope]) for slope in sorted(highest)]


def whole_factor(roof):
    return common_bottom([plane[2] for plane in roof])


def blown_up(roof, factor):
    # Whole heights are reckoned with far sooner, and all keeps its form: what the roof has at a point, the blown up
    # one has at the point times the factor, which shrunk leads back.
    return [(plane[0], plane[1], (whole(plane[2], factor), 1)) for plane in roof]


def shrunk(point, factor):
    return (fraction(point[0][0], point[0][1] * factor), fraction(point[1][0], point[1][1] * factor))
