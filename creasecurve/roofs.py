"""Roofs: lists of planes (i, j, height) with unlike slopes, in the order of their slopes."""

from creasecurve.errors import NoRoof, TooMany, TooSteep
from creasecurve.fractions import greatest, less, plus, times

STEEPEST = 8
MOST_PLANES = 16


def slope_of(plane):
    return (plane[0], plane[1])


def plane_height(plane, point):
    along_x = times((plane[0], 1), point[0])
    along_y = times((plane[1], 1), point[1])
    return plus(plus(along_x, along_y), plane[2])


def height_at(roof, point):
    return greatest([plane_height(plane, point) for plane in roof])


def is_too_steep(slope):
    return min(slope) < 0 or max(slope) > STEEPEST


def highest_by_slope(planes):
    highest = {}
    for plane in planes:
        slope = slope_of(plane)
        if slope not in highest or less(highest[slope][2], plane[2]):
            highest[slope] = plane
    return highest


def roof_of(planes):
    if len(planes) == 0:
        raise NoRoof("a roof has one plane or more")
    # All slopes are looked at ahead of the count, since TooSteep goes before TooMany.
    if any([is_too_steep(slope_of(plane)) for plane in planes]):
        raise TooSteep("a slope has two numbers from 0 to 8")
    highest = highest_by_slope(planes)
    if len(highest) > MOST_PLANES:
        raise TooMany("a roof has at most sixteen unlike slopes")
    return [highest[slope] for slope in sorted(highest)]
