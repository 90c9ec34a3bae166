"""Drawings: a roof seen from above, as texts."""

from creasecurve.fractions import common_bottom, whole
from creasecurve.roofs import blown_up, slope_of
from creasecurve.texts import LETTERS
from creasecurve.thinning import thinned
from creasecurve.tops import tops


def sign_at(planes, point):
    slopes = tops(planes, point)
    # All planes here stay, so that of three on top none has its slope between two others': they are not on one line.
    if len(slopes) > 2:
        return "+"
    if len(slopes) > 1:
        return "."
    return LETTERS[[slope_of(plane) for plane in planes].index(slopes[0])]


def drawn_row(planes, xs, y):
    return "".join([sign_at(planes, ((x, 1), (y, 1))) for x in xs])


def drawn(roof, point, step, wide, tall):
    # All points of the drawing, too, are whole ones where the roof is blown up by this factor.
    stay = thinned(roof)
    factor = common_bottom([plane[2] for plane in stay] + [point[0], point[1], step])
    planes = blown_up(stay, factor)
    onward = whole(step, factor)
    xs = [whole(point[0], factor) + k * onward for k in range(wide)]
    ys = [whole(point[1], factor) + k * onward for k in range(tall)]
    return [drawn_row(planes, xs, y) for y in reversed(ys)]
