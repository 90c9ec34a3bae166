"""Meetings: the points where the creases of two roofs meet, each with its count."""

from creasecurve.bends import bends
from creasecurve.corners import points_in_order
from creasecurve.hulls import area, hull
from creasecurve.lines import along
from creasecurve.pieces import gone, level_point, pieces
from creasecurve.roofs import blown_up, shrunk, slope_of, whole_factor
from creasecurve.tops import tops


def mixed(slopes, others):
    # The sums of both hulls' tuples have the same hull as all sums, and are far fewer.
    inner = hull(slopes)
    outer = hull(others)
    sums = []
    for slope in inner:
        sums.extend([(slope[0] + other[0], slope[1] + other[1]) for other in outer])
    return (area(sums) - area(inner) - area(outer)) // 2


def crossings(planes, others):
    # Each meeting lies on a piece of the one roof along which the other one bends: on a piece between its ends the
    # count is above 0 just where it does, and from a corner steps leave that are not all along one crease.
    by_slope = {}
    for plane in planes:
        by_slope[slope_of(plane)] = plane
    met = {}
    for piece in pieces(planes):
        start = level_point(by_slope[piece[0]], by_slope[piece[1]])
        for place, weight in bends(along(others, start, piece[3]))[2]:
            met[gone(start, piece[3], place)] = True
    return points_in_order(list(met))


def meetings(one, other):
    factor = whole_factor(one + other)
    planes = blown_up(one, factor)
    others = blown_up(other, factor)
    rows = [(point, mixed(tops(planes, point), tops(others, point))) for point in crossings(planes, others)]
    return [(shrunk(point, factor), count) for point, count in rows if count > 0]
