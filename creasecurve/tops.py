"""Which planes of a roof are on top at a point."""

from creasecurve.fractions import common_bottom, whole
from creasecurve.roofs import slope_of


def heights_over(roof, point):
    # Over one bottom for all of them, heights are held against one another as whole numbers, without dividing.
    factor = common_bottom([plane[2] for plane in roof] + list(point))
    x = whole(point[0], factor)
    y = whole(point[1], factor)
    return [plane[0] * x + plane[1] * y + whole(plane[2], factor) for plane in roof]


def tops(roof, point):
    heights = heights_over(roof, point)
    top = max(heights)
    return [slope_of(plane) for plane, height in zip(roof, heights) if height == top]
