"""Fields: the hulls of the slopes on top, which cut up the floor of slopes; and the lands of the planes that stay."""

from creasecurve.corners import corners
from creasecurve.hulls import hull, turn
from creasecurve.roofs import slope_of
from creasecurve.thinning import thinned
from creasecurve.tops import tops


def field(roof, point):
    return hull(tops(roof, point))


def fields(roof):
    return [(corner, field(roof, corner)) for corner in corners(roof)]


def lies_within(around, slope):
    # Where all slopes are on one line no turn is above 0, so that none lies within.
    return all([turn(around[k - 1], around[k], slope) > 0 for k in range(len(around))])


def corners_of_land(rows, slope):
    # A plane that stays is no mixture of others on top, so where it is on top at a corner the field goes by its slope.
    return [corner for corner, around in rows if slope in around]


def lands(roof):
    rows = fields(roof)
    around = hull([slope_of(plane) for plane in roof])
    slopes = [slope_of(plane) for plane in thinned(roof)]
    return [(slope, lies_within(around, slope), corners_of_land(rows, slope)) for slope in slopes]
