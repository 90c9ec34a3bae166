"""Roofs added, raised, moved, and the greater of two."""

from creasecurve.fractions import minus, plus
from creasecurve.roofs import plane_height, roof_of


def added(one, other):
    planes = []
    for plane in one:
        planes.extend([(plane[0] + part[0], plane[1] + part[1], plus(plane[2], part[2])) for part in other])
    return roof_of(planes)


def raised(roof, height):
    return [(plane[0], plane[1], plus(plane[2], height)) for plane in roof]


def moved(roof, point):
    # What lies over (0, 0) then lay over the point as far on its other side before.
    back = (minus((0, 1), point[0]), minus((0, 1), point[1]))
    return [(plane[0], plane[1], plane_height(plane, back)) for plane in roof]


def greater(one, other):
    return roof_of(one + other)
