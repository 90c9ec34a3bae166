import unittest
from fractions import Fraction

import samples
from creasecurve.corners import corners
from creasecurve.errors import TooMany, TooSteep
from creasecurve.fields import field, fields
from creasecurve.hulls import hull
from creasecurve.pieces import pieces
from creasecurve.roofs import height_at, roof_of
from creasecurve.sums import added, greater, moved, raised
from creasecurve.texts import read, written
from creasecurve.thinning import thinned
from creasecurve.tops import tops
from samples import at, plane, real, refused, shift, slopes_of, told

POINTS = [at(Fraction(x, 2), Fraction(y, 3)) for x in (-7, -1, 0, 2, 9) for y in (-8, 0, 1, 12)]
SHIFTS = [at(0, 0), at(1, 0), at("-3/2", "5/7"), at(Fraction(1, 10 ** 30 - 1), -10 ** 30)]
SMALL = [(i, j) for i in range(3) for j in range(3)]
TINY = [(0, 0), (0, 1), (1, 0), (1, 1)]


def grid(low, high, height=0):
    return [plane(i, j, height) for i in range(low, high + 1) for j in range(low, high + 1)]


def pairs():
    """Pairs of roofs whose sum has at most sixteen slopes."""
    found = []
    for kind in ("flat", "bowl", "long"):
        for seed in range(8):
            found.append((samples.made_roof(seed, 1 + seed, SMALL, kind), samples.made_roof(seed + 50, 4, TINY, kind)))
            found.append((samples.made_roof(seed, 5, [(i, i) for i in range(5)], kind),
                          samples.made_roof(seed + 9, 4, [(i, i) for i in range(4)], kind)))
            found.append((samples.made_roof(seed, 16, [(i, j) for i in range(6) for j in range(6)], kind),
                          samples.made_roof(seed + 3, 1, SMALL, kind)))
    return found


def height_sum(one, other, point):
    return told(real(height_at(one, point)) + real(height_at(other, point)))


class Added(unittest.TestCase):
    def test_plain(self):
        self.assertEqual(written(added(read("0 0 0; 1 0 -1/2"), read("0 0 1/3; 0 1 2"))),
                         "0 0 1/3; 0 1 2; 1 0 -1/6; 1 1 3/2")

    def test_of_like_sums_the_highest(self):
        self.assertEqual(written(added(read("0 0 0; 1 0 5"), read("1 0 -1/3; 2 0 -6"))), "1 0 -1/3; 2 0 14/3; 3 0 -1")
        self.assertEqual(written(added(read("0 0 0; 1 0 5"), read("1 0 -1/3; 2 0 6"))), "1 0 -1/3; 2 0 6; 3 0 11")

    def test_one_plane_each(self):
        self.assertEqual(added(read("3 8 -1/2"), read("5 0 1/2")), read("8 8 0"))

    def test_not_thinned(self):
        self.assertEqual(written(added(read("0 0 0; 1 0 -9; 2 0 0"), read("0 0 0"))), "0 0 0; 1 0 -9; 2 0 0")
        self.assertEqual(written(added(read("0 0 0; 2 0 0"), read("0 0 0; 2 0 0"))), "0 0 0; 2 0 0; 4 0 0")

    def test_with_itself(self):
        for roof in samples.sample_roofs():
            small = [one for one in roof if max(one[:2]) <= 4][:4]
            if small:
                twice = added(small, small)
                self.assertEqual(corners(twice), corners(small))
                self.assertEqual(pieces(twice), [
                    ((2 * a, 2 * b), (2 * c, 2 * d), ends, step, 2 * weight)
                    for (a, b), (c, d), ends, step, weight in pieces(small)])

    def test_by_another_way(self):
        for one, other in pairs():
            highest = {}
            for i, j, height in one:
                for k, m, more in other:
                    highest.setdefault((i + k, j + m), []).append(real(height) + real(more))
            self.assertEqual(added(one, other), [plane(i, j, max(highest[i, j])) for i, j in sorted(highest)])

    def test_as_high_as_both_added_up(self):
        for one, other in pairs():
            roof = added(one, other)
            for point in POINTS:
                self.assertEqual(height_at(roof, point), height_sum(one, other, point))

    def test_field_of_the_sum(self):
        for one, other in pairs():
            roof = added(one, other)
            for point in POINTS + corners(one) + corners(other) + corners(roof):
                sums = [(a + c, b + d) for a, b in tops(one, point) for c, d in tops(other, point)]
                self.assertEqual(field(roof, point), hull(sums))

    def test_either_way_round(self):
        for one, other in pairs():
            self.assertEqual(added(one, other), added(other, one))

    def test_sixteen_planes_and_one(self):
        self.assertEqual(added(grid(0, 3), [plane(5, 5, "1/7")]), grid(5, 8, "1/7"))

    def test_sixteen_sums(self):
        self.assertEqual(added(grid(0, 2), grid(4, 5)), grid(4, 7))
        self.assertEqual(added(grid(2, 4, "1/2"), grid(3, 4, "-1/3")), grid(5, 8, "1/6"))

    def test_thirty_figures(self):
        nines = 10 ** 30 - 1
        one = [plane(0, 0, Fraction(1, nines)), plane(1, 1, Fraction(-nines, nines - 1))]
        other = [plane(0, 0, Fraction(nines, nines - 2)), plane(0, 1, -nines)]
        self.assertEqual(added(one, other), [
            plane(0, 0, Fraction(1, nines) + Fraction(nines, nines - 2)), plane(0, 1, Fraction(1, nines) - nines),
            plane(1, 1, Fraction(nines, nines - 2) - Fraction(nines, nines - 1)),
            plane(1, 2, -nines - Fraction(nines, nines - 1))])

    def test_too_steep(self):
        refused(self, TooSteep, added, read("8 0 0"), read("1 0 0"))
        refused(self, TooSteep, added, read("0 0 0; 0 5 -9"), read("0 0 0; 0 4 -9"))
        refused(self, TooSteep, added, read("4 4 0"), read("4 5 0"))
        self.assertEqual(added(read("4 4 0"), read("4 4 0")), read("8 8 0"))

    def test_too_many(self):
        refused(self, TooMany, added, grid(0, 3), grid(0, 1))
        refused(self, TooMany, added, grid(0, 3), [plane(0, 0, 0), plane(0, 1, -9)])
        refused(self, TooMany, added, grid(0, 2), grid(0, 2))

    def test_sixteen_planes_each(self):
        refused(self, TooMany, added, grid(0, 3), grid(0, 3))
        refused(self, TooMany, added, grid(1, 4), grid(1, 4))

    def test_too_steep_goes_before_too_many(self):
        refused(self, TooSteep, added, grid(2, 5), grid(2, 5))
        refused(self, TooSteep, added, grid(0, 3), [plane(0, 0, 0), plane(0, 6, -9)])

    def test_own_lists(self):
        samples.check_own(self, added, read("0 0 0; 1 0 -1/2"), read("0 0 1/3; 0 1 2"))
        roof = read("0 0 0; 1 0 -1/2")
        self.assertEqual(added(roof, roof), read("0 0 0; 1 0 -1/2; 2 0 -1"))
        self.assertEqual(roof, read("0 0 0; 1 0 -1/2"))


class Raised(unittest.TestCase):
    def test_plain(self):
        self.assertEqual(raised(read("0 0 0; 1 0 -1/2; 3 5 2/3"), (1, 3)), read("0 0 1/3; 1 0 -1/6; 3 5 1"))

    def test_below_nought_and_nought(self):
        self.assertEqual(raised(read("0 0 0; 1 0 -1/2"), (-5, 6)), read("0 0 -5/6; 1 0 -4/3"))
        self.assertEqual(raised(read("0 0 0; 1 0 -1/2"), (0, 1)), read("0 0 0; 1 0 -1/2"))

    def test_not_thinned(self):
        self.assertEqual(raised(read("0 0 0; 1 0 -9; 2 0 0"), (9, 1)), read("0 0 9; 1 0 0; 2 0 9"))

    def test_there_and_back(self):
        for roof in samples.sample_roofs():
            for height in ((7, 3), (-1, 10 ** 30 - 1)):
                self.assertEqual(raised(raised(roof, height), (-height[0], height[1])), roof)

    def test_height(self):
        for roof in samples.sample_roofs()[::4]:
            for point in POINTS:
                self.assertEqual(real(height_at(raised(roof, (-5, 7)), point)),
                                 real(height_at(roof, point)) - Fraction(5, 7))

    def test_the_same_corners_pieces_and_fields(self):
        for roof in samples.sample_roofs()[::2]:
            higher = raised(roof, (-22, 7))
            self.assertEqual(corners(higher), corners(roof))
            self.assertEqual(pieces(higher), pieces(roof))
            self.assertEqual(fields(higher), fields(roof))

    def test_beyond_the_bounds_nothing_is_refused(self):
        many = [plane(i, j, 0) for i in range(5) for j in range(6, 10)]
        self.assertEqual(raised(many, (1, 2)), [plane(i, j, "1/2") for i, j in slopes_of(many)])

    def test_own_lists(self):
        samples.check_own(self, raised, read("0 0 0; 1 0 -1/2"), (1, 3))
        samples.check_own(self, raised, read("0 0 0; 1 0 -1/2"), (0, 1))


class Moved(unittest.TestCase):
    def test_plain(self):
        self.assertEqual(moved(read("0 0 1; 1 0 -1/2; 3 5 2/3"), at(1, "-1/3")), read("0 0 1; 1 0 -3/2; 3 5 -2/3"))
        self.assertEqual(moved(read("0 1 0; 1 0 0"), at(0, 0)), read("0 1 0; 1 0 0"))

    def test_not_thinned(self):
        self.assertEqual(moved(read("0 0 0; 1 0 -9; 2 0 0"), at(1, 1)), read("0 0 0; 1 0 -10; 2 0 -2"))

    def test_there_and_back(self):
        for roof in samples.sample_roofs():
            for x, y in SHIFTS:
                there = moved(roof, (x, y))
                self.assertEqual(moved(there, ((-x[0], x[1]), (-y[0], y[1]))), roof)

    def test_as_high_as_it_was(self):
        for roof in samples.sample_roofs()[::4]:
            for step in SHIFTS:
                there = moved(roof, step)
                for point in POINTS:
                    self.assertEqual(height_at(there, shift(point, step)), height_at(roof, point))

    def test_corners_pieces_and_fields_are_moved_with_it(self):
        for roof in samples.sample_roofs()[::2]:
            for step in SHIFTS:
                there = moved(roof, step)
                self.assertEqual(corners(there), [shift(point, step) for point in corners(roof)])
                self.assertEqual(fields(there), [(shift(point, step), row) for point, row in fields(roof)])
                self.assertEqual(pieces(there), [
                    (one, other, [shift(end, step) for end in ends], way, weight)
                    for one, other, ends, way, weight in pieces(roof)])

    def test_beyond_the_bounds_nothing_is_refused(self):
        many = [plane(i, j, 0) for i in range(5) for j in range(6, 10)]
        self.assertEqual(moved(many, at(1, 0)), [plane(i, j, -i) for i, j in slopes_of(many)])

    def test_own_lists(self):
        samples.check_own(self, moved, read("0 0 0; 1 0 -1/2"), at(1, "1/3"))
        samples.check_own(self, moved, read("0 0 0; 1 0 -1/2"), at(0, 0))


class Greater(unittest.TestCase):
    def test_plain(self):
        self.assertEqual(greater(read("0 0 0; 1 0 -1/2; 8 8 1"), read("0 0 -1; 0 1 2; 1 0 -1/3")),
                         read("0 0 0; 0 1 2; 1 0 -1/3; 8 8 1"))

    def test_not_thinned(self):
        self.assertEqual(greater(read("0 0 0; 2 0 0"), read("1 0 -9")), read("0 0 0; 1 0 -9; 2 0 0"))

    def test_with_itself(self):
        for roof in samples.sample_roofs():
            self.assertEqual(greater(roof, roof), roof)
            self.assertEqual(greater(roof, thinned(roof)), roof)

    def test_as_high_as_the_higher_one(self):
        for one, other in pairs():
            if len(set(slopes_of(one) + slopes_of(other))) <= 16:
                roof = greater(one, other)
                self.assertEqual(roof, roof_of(one + other))
                self.assertEqual(roof, greater(other, one))
                for point in POINTS:
                    self.assertEqual(real(height_at(roof, point)),
                                     max(real(height_at(one, point)), real(height_at(other, point))))

    def test_sixteen_slopes(self):
        self.assertEqual(greater(grid(0, 3)[:8], grid(0, 3)[8:]), grid(0, 3))
        self.assertEqual(greater(grid(0, 3, -1), grid(0, 3, 1)), grid(0, 3, 1))

    def test_too_many(self):
        refused(self, TooMany, greater, grid(0, 3), [plane(8, 8, 0)])
        refused(self, TooMany, greater, grid(0, 3), grid(4, 7))
        refused(self, TooMany, greater, [plane(4, 4, -99)], grid(0, 3))

    def test_own_lists(self):
        samples.check_own(self, greater, read("0 0 0; 1 0 -1/2"), read("0 0 1/3; 0 1 2"))
        samples.check_own(self, greater, read("0 0 0; 1 0 -1/2"), read("0 0 0; 1 0 -1/2"))


if __name__ == "__main__":
    unittest.main()
