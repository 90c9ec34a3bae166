"""Line roofs as a slope, a height and single bends."""

from creasecurve.fractions import common_bottom, minus, over, times, whole
from creasecurve.lines import line_thinned


def bend_between(row, following):
    weight = following[0] - row[0]
    return (over(minus(row[1], following[1]), (weight, 1)), weight)


def bends(line):
    thin = line_thinned(line)
    rows = [bend_between(thin[k - 1], thin[k]) for k in range(1, len(thin))]
    return (thin[0][0], thin[0][1], rows)


def weights_by_place(rows):
    weights = {}
    for place, weight in rows:
        weights[place] = weights.get(place, 0) + weight
    return weights


def rising(numbers):
    factor = common_bottom(numbers)
    return sorted(numbers, key=lambda number: whole(number, factor))


def unbent(slope, height, rows):
    weights = weights_by_place(rows)
    line = [(slope, height)]
    for place in rising(list(weights)):
        weight = weights[place]
        before = line[-1]
        line.append((before[0] + weight, minus(before[1], times((weight, 1), place))))
    return line
