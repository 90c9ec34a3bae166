"""The roof through points: of told slopes, with two planes or more on top at each of the points."""

from creasecurve.dealings import best
from creasecurve.errors import NoDealing
from creasecurve.fractions import minus
from creasecurve.roofs import plane_height

FEWEST_SLOPES = 2
MOST_SLOPES = 6


def check_numbers(slopes, points):
    if len(slopes) < FEWEST_SLOPES or len(slopes) > MOST_SLOPES:
        raise NoDealing("there are two to six slopes")
    if len(set(slopes)) != len(slopes):
        raise NoDealing("slopes are unlike")
    if len(points) != len(slopes) - 1:
        raise NoDealing("there is one point fewer than slopes")


def table_without(slope, slopes, points):
    level = [(other[0], other[1], (0, 1)) for other in slopes if other != slope]
    table = []
    for point in points:
        table.append([plane_height(plane, point) for plane in level])
    return table


def through(slopes, points):
    check_numbers(slopes, points)
    in_order = sorted(slopes)
    told = [best(table_without(slope, in_order, points)) for slope in in_order]
    least = told[0][0]
    roof = [(slope[0], slope[1], minus(row[0], least)) for slope, row in zip(in_order, told)]
    return (roof, [slope for slope, row in zip(in_order, told) if row[1] > 1])
