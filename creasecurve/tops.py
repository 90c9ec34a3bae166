"""Which planes of a roof are on top at a point."""

from creasecurve.fractions import greatest
from creasecurve.roofs import plane_height, slope_of


def tops(roof, point):
    heights = [plane_height(plane, point) for plane in roof]
    top = greatest(heights)
    return [slope_of(plane) for plane, height in zip(roof, heights) if height == top]
