"""Papers: each says something of a roof, and is looked at with one."""

from creasecurve.corners import corners
from creasecurve.errors import NoCorner
from creasecurve.fractions import less
from creasecurve.pieces import leaving
from creasecurve.roofs import slope_of
from creasecurve.thinning import mixture_height, shared_sum, staying, struck
from creasecurve.tops import tops

MOST_PARTS = 3


def are_unlike_others(plane, planes, roof):
    if len(planes) == 0 or len(planes) > MOST_PARTS or len(set(planes)) != len(planes):
        return False
    return plane not in planes and all([part in roof for part in planes])


def are_shares(shares):
    if not all([less((0, 1), share) for share in shares]):
        return False
    return shared_sum([(share, (1, 1)) for share in shares]) == (1, 1)


def lies_no_lower(parts, plane):
    along_x = shared_sum([(share, (part[0], 1)) for share, part in parts])
    along_y = shared_sum([(share, (part[1], 1)) for share, part in parts])
    return along_x == (plane[0], 1) and along_y == (plane[1], 1) and not less(mixture_height(parts), plane[2])


class Paper:
    pass


class Mixture(Paper):
    def __init__(self, plane, parts):
        self.plane = plane
        self.parts = list(parts)

    def holds(self, roof):
        if self.plane not in roof or not are_unlike_others(self.plane, [part for share, part in self.parts], roof):
            return False
        return are_shares([share for share, part in self.parts]) and lies_no_lower(self.parts, self.plane)


class Alone(Paper):
    def __init__(self, plane, point):
        self.plane = plane
        self.point = point

    def holds(self, roof):
        return self.plane in roof and tops(roof, self.point) == [slope_of(self.plane)]


class Balance(Paper):
    def __init__(self, point, rows):
        self.point = point
        self.rows = list(rows)

    def holds(self, roof):
        try:
            told = leaving(roof, self.point)
        except NoCorner:
            return False
        return sorted(self.rows) == told


def papers(roof):
    points = dict(staying(roof))
    mixtures = dict(struck(roof))
    rows = [Alone(plane, points[plane]) if plane in points else Mixture(plane, mixtures[plane]) for plane in roof]
    return rows + [Balance(corner, leaving(roof, corner)) for corner in corners(roof)]
