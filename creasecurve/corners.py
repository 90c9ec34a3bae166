"""Corners: the points where the slopes on top do not all lie on one line."""

from creasecurve.fractions import common_bottom, whole
from creasecurve.pieces import pieces


def points_in_order(points):
    factor = common_bottom([point[0] for point in points] + [point[1] for point in points])
    return sorted(points, key=lambda point: (whole(point[0], factor), whole(point[1], factor)))


def corners(roof):
    # Pieces end at corners alone, and at each corner three of them or more end.
    met = {}
    for piece in pieces(roof):
        for end in piece[2]:
            met[end] = True
    return points_in_order(list(met))
