"""Thinning: the planes that stay, each with a point where it is alone on top, and mixtures for those struck out."""

from creasecurve.fractions import fraction, greatest, least, less, minus, over, plus, times
from creasecurve.hulls import turn
from creasecurve.roofs import blown_up, shrunk, whole_factor


def between(lows, highs):
    # A number above all lows and below all highs, or None.
    if len(lows) == 0 and len(highs) == 0:
        return (0, 1)
    if len(highs) == 0:
        return plus(greatest(lows), (1, 1))
    if len(lows) == 0:
        return minus(least(highs), (1, 1))
    low = greatest(lows)
    high = least(highs)
    return over(plus(low, high), (2, 1)) if less(low, high) else None


def solved(rows):
    # A number x for which a times x and b added are above 0 for each row (a, b), or None.
    if any([row[0] == 0 and row[1] <= 0 for row in rows]):
        return None
    lows = [fraction(-row[1], row[0]) for row in rows if row[0] > 0]
    highs = [fraction(-row[1], row[0]) for row in rows if row[0] < 0]
    return between(lows, highs)


def without_y(rows):
    # There is a y between those that bound it from below and those that do from above just where each of the one
    # leaves room below each of the other; this asks something of x alone.
    kept = [(row[0], row[2]) for row in rows if row[1] == 0]
    highs = [row for row in rows if row[1] < 0]
    for low in rows:
        if low[1] > 0:
            kept.extend([(low[1] * high[0] - high[1] * low[0], low[1] * high[2] - high[1] * low[2]) for high in highs])
    return kept


def gap(plane, other):
    return (plane[0] - other[0], plane[1] - other[1], plane[2][0] - other[2][0])


def lone_point(plane, planes):
    # A point where the plane is above all others, or None; all heights are whole.
    rows = [gap(plane, other) for other in planes if other != plane]
    x = solved(without_y(rows))
    if x is None:
        return None
    y = solved([(row[1] * x[1], row[0] * x[0] + row[2] * x[1]) for row in rows])
    return (x, y)


def lone_points(roof, factor):
    planes = blown_up(roof, factor)
    return [lone_point(plane, planes) for plane in planes]


def staying(roof):
    factor = whole_factor(roof)
    points = lone_points(roof, factor)
    return [(plane, shrunk(point, factor)) for plane, point in zip(roof, points) if point is not None]


def thinned(roof):
    points = lone_points(roof, whole_factor(roof))
    return [plane for plane, point in zip(roof, points) if point is not None]


def pairs_and_triples(planes):
    pairs = []
    triples = []
    for k, one in enumerate(planes):
        for m in range(k + 1, len(planes)):
            pairs.append([one, planes[m]])
            triples.extend([[one, planes[m], last] for last in planes[m + 1:]])
    return pairs + triples


def dot(middle, one, other):
    return (one[0] - middle[0]) * (other[0] - middle[0]) + (one[1] - middle[1]) * (other[1] - middle[1])


def pair_weights(middle, one, other):
    if turn(middle, one, other) != 0:
        return [0, 0]
    return [dot(middle, other, other), -dot(middle, one, other)]


def triple_weights(middle, one, other, last):
    weights = [turn(middle, other, last), turn(middle, last, one), turn(middle, one, other)]
    # They are all above 0 or all below, by which way round the three are told.
    return weights if sum(weights) > 0 else [-weight for weight in weights]


def weights_of(plane, group):
    # Whole weights with which the slopes of the group sum to nought as seen from the plane's; all are above 0 just
    # where its slope lies strictly within the group's.
    if len(group) == 2:
        return pair_weights(plane, group[0], group[1])
    return triple_weights(plane, group[0], group[1], group[2])


def shared_sum(rows):
    total = (0, 1)
    for share, number in rows:
        total = plus(total, times(share, number))
    return total


def mixture_height(mixture):
    return shared_sum([(share, plane[2]) for share, plane in mixture])


def mixture_of(plane, groups):
    # One of the groups always serves: above each plane that is struck out lie planes that stay.
    for group in groups:
        weights = weights_of(plane, group)
        if min(weights) > 0:
            mixture = [(fraction(weight, sum(weights)), part) for weight, part in zip(weights, group)]
            if not less(mixture_height(mixture), plane[2]):
                return mixture


def struck(roof):
    stay = thinned(roof)
    groups = pairs_and_triples(stay)
    return [(plane, mixture_of(plane, groups)) for plane in roof if plane not in stay]
