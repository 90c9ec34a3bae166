"""Line roofs: lists of tuples (slope, height) with unlike slopes, rising; and roofs cut along a line."""

from creasecurve.errors import NoRoof
from creasecurve.fractions import common_bottom, greatest, plus, times, whole
from creasecurve.hulls import chain
from creasecurve.roofs import highest_by_slope, plane_height


def line_of(rows):
    if len(rows) == 0:
        raise NoRoof("a line roof has one tuple or more")
    highest = highest_by_slope(rows)
    return [(slope, highest[slope]) for slope in sorted(highest)]


def line_height(line, t):
    return greatest([plus(times((slope, 1), t), height) for slope, height in line])


def line_thinned(line):
    # Slope and height taken as a point, the tuples that are somewhere the greatest are the upper side of a hull,
    # and this is the chain from the greatest slope back to the least.
    factor = common_bottom([height for slope, height in line])
    points = [(slope, whole(height, factor)) for slope, height in line]
    kept = [slope for slope, height in chain(list(reversed(points)))]
    return [row for row in line if row[0] in kept]


def line_added(one, other):
    rows = []
    for slope, height in one:
        rows.extend([(slope + row[0], plus(height, row[1])) for row in other])
    return line_thinned(line_of(rows))


def along(roof, point, step):
    rows = [(plane[0] * step[0] + plane[1] * step[1], plane_height(plane, point)) for plane in roof]
    return line_thinned(line_of(rows))
