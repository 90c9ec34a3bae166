"""Hulls of tuples of two whole numbers."""


def turn(start, middle, end):
    # Above 0 where the way from start by middle to end turns to the left, 0 where it goes on along one line.
    along = (middle[0] - start[0]) * (end[1] - start[1])
    across = (middle[1] - start[1]) * (end[0] - start[0])
    return along - across


def chain(points):
    # The shortest way from the first of sorted points to the last that has none of them on its right.
    kept = []
    for point in points:
        while len(kept) > 1 and turn(kept[-2], kept[-1], point) <= 0:
            kept.pop()
        kept.append(point)
    return kept


def hull(slopes):
    rows = sorted(set(slopes))
    if len(rows) == 1:
        return rows
    there = chain(rows)
    back = chain(list(reversed(rows)))
    # Each of the two ways ends where the other one begins.
    return there[:-1] + back[:-1]


def area(slopes):
    around = hull(slopes)
    return sum([turn((0, 0), around[k - 1], around[k]) for k in range(len(around))])
