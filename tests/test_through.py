import itertools
import unittest
from fractions import Fraction

import samples
from creasecurve.errors import NoDealing
from creasecurve.pieces import pieces
from creasecurve.sums import moved, raised
from creasecurve.texts import read
from creasecurve.thinning import thinned
from creasecurve.through import through
from creasecurve.tops import tops
from samples import ALL_SLOPES, at, inner_point, plane, real, refused, shift, slopes_of, told


def greatest_worth(slope, slopes, points):
    others = [other for other in slopes if other != slope]
    worths = []
    for order in itertools.permutations(others):
        worths.append(sum(i * real(x) + j * real(y) for (i, j), (x, y) in zip(order, points)))
    return max(worths), worths.count(max(worths))


def expected_through(slopes, points):
    found = {slope: greatest_worth(slope, slopes, points) for slope in slopes}
    least = found[min(slopes)][0]
    return ([plane(i, j, found[i, j][0] - least) for i, j in sorted(slopes)],
            [slope for slope in sorted(slopes) if found[slope][1] > 1])


def sample_askings():
    askings = []
    for seed in range(120):
        row = samples.chances(seed)
        count = 2 + seed % 5
        slopes = samples.some_slopes(row, count, ALL_SLOPES if seed % 2 else ALL_SLOPES[:30:3])
        kind = seed % 3
        points = []
        for k in range(count - 1):
            if kind == 0:
                points.append(at(next(row) % 2, next(row) % 2))
            elif kind == 1:
                points.append(at(Fraction(next(row) % 41 - 20, 3), Fraction(next(row) % 41 - 20, 7)))
            else:
                points.append(at(Fraction(samples.long_number(row), samples.long_number(row)), 1 - next(row)))
        askings.append((slopes, points))
    return askings


def tree_of(roof):
    """Pieces that join all slopes of a roof into one tree."""
    joined = [roof[0][:2]]
    taken = []
    while len(joined) < len(roof):
        for piece in pieces(roof):
            if (piece[0] in joined) != (piece[1] in joined):
                joined.extend(slope for slope in piece[:2] if slope not in joined)
                taken.append(piece)
    return taken


class Plain(unittest.TestCase):
    def test_two_slopes_and_one_point(self):
        self.assertEqual(through([(0, 0), (1, 0)], [at(3, 5)]), (read("0 0 0; 1 0 -3"), []))
        self.assertEqual(through([(8, 1), (2, 5)], [at("1/2", "1/3")]), (read("2 5 0; 8 1 -5/3"), []))

    def test_three_slopes(self):
        self.assertEqual(through([(0, 0), (0, 1), (1, 0)], [at(0, -1), at(-3, 1)]),
                         (read("0 0 0; 0 1 -1; 1 0 0"), []))

    def test_six_slopes_and_five_points(self):
        slopes = [(k, 0) for k in range(6)]
        points = [at(k, 7 - k) for k in (2, -1, 0, 5, 3)]
        self.assertEqual(through(slopes, points), (read("0 0 0; 1 0 1; 2 0 1; 3 0 -1; 4 0 -4; 5 0 -9"), []))

    def test_more_than_one_dealing_is_best(self):
        roof, doubles = through([(0, 0), (0, 1), (1, 0)], [at(0, 1), at(2, 3)])
        self.assertEqual((roof, doubles), (read("0 0 0; 0 1 -1; 1 0 0"), [(0, 0)]))

    def test_points_that_are_alike(self):
        self.assertEqual(through([(0, 0), (0, 1), (1, 0)], [at(2, 3), at(2, 3)]),
                         (read("0 0 0; 0 1 -3; 1 0 -2"), [(0, 0), (0, 1), (1, 0)]))
        slopes = [(0, 0), (0, 2), (1, 1), (3, 0), (4, 4), (8, 8)]
        roof, doubles = through(slopes, [at("1/2", -1)] * 5)
        self.assertEqual(tops(roof, at("1/2", -1)), slopes)
        self.assertEqual(doubles, slopes)

    def test_doubles_are_in_order(self):
        slopes = [(3, 3), (0, 5), (2, 1), (1, 7)]
        self.assertEqual(through(slopes, [at(0, 0)] * 3)[1], sorted(slopes))


class Wholly(unittest.TestCase):
    def test_by_another_way(self):
        for slopes, points in sample_askings():
            self.assertEqual(through(slopes, points), expected_through(slopes, points))

    def test_some_have_doubles_and_some_have_none(self):
        doubles = [through(slopes, points)[1] for slopes, points in sample_askings()]
        self.assertGreater(len([row for row in doubles if row]), 20)
        self.assertGreater(len([row for row in doubles if not row]), 20)

    def test_at_each_point_two_planes_or_more_are_on_top(self):
        for slopes, points in sample_askings():
            roof = through(slopes, points)[0]
            self.assertEqual(slopes_of(roof), sorted(slopes))
            self.assertEqual(roof[0][2], (0, 1))
            for point in points:
                self.assertGreaterEqual(len(tops(roof, point)), 2)

    def test_slopes_and_points_in_any_order(self):
        for slopes, points in sample_askings():
            expected = through(slopes, points)
            self.assertEqual(through(slopes[::-1], points), expected)
            self.assertEqual(through(slopes, points[::-1]), expected)
            self.assertEqual(through(slopes[2:] + slopes[:2], points[1:] + points[:1]), expected)

    def test_all_moved_alike(self):
        for slopes, points in sample_askings():
            for step in (at("1/3", -2), at(Fraction(1, 10 ** 30 - 1), 10 ** 20)):
                roof, doubles = through(slopes, points)
                there = moved(roof, step)
                lowered = raised(there, told(-real(there[0][2])))
                self.assertEqual(through(slopes, [shift(point, step) for point in points]), (lowered, doubles))

    def test_the_roof_that_was_there_is_told(self):
        seen = 0
        for roof in samples.sample_roofs():
            if 2 <= len(roof) <= 6 and thinned(roof) == roof:
                points = [at(*inner_point(piece, roof)) for piece in tree_of(roof)]
                lowered = raised(roof, told(-real(roof[0][2])))
                self.assertEqual(through(slopes_of(roof), points), (lowered, []))
                seen += 1
        self.assertGreater(seen, 30)

    def test_no_other_roof_where_there_are_no_doubles(self):
        slopes = [(0, 0), (0, 1), (1, 0)]
        points = [at(0, -1), at(-3, 1)]
        roof, doubles = through(slopes, points)
        self.assertEqual(doubles, [])
        for high in range(-20, 21):
            for far in range(-20, 21):
                other = [plane(0, 0, 0), plane(0, 1, Fraction(high, 4)), plane(1, 0, Fraction(far, 4))]
                if all(len(tops(other, point)) >= 2 for point in points):
                    self.assertEqual(other, roof)

    def test_many_figures(self):
        nines = 10 ** 60 - 1
        slopes = [(0, 8), (1, 2), (3, 3), (5, 0), (7, 1), (8, 8)]
        points = [at(Fraction(nines, nines - k), Fraction(-nines + 5 * k, 10 ** 59 + k)) for k in range(1, 6)]
        self.assertEqual(through(slopes, points), expected_through(slopes, points))

    def test_somewhat_beyond_the_bounds_nothing_is_refused(self):
        slopes = [(-1, 0), (0, 0), (9, 10)]
        points = [at(1, 2), at(-3, 5)]
        self.assertEqual(through(slopes, points), expected_through(slopes, points))

    def test_kinds(self):
        asked = through([(0, 0), (1, 0)], [at(3, 5)])
        self.assertIs(type(asked), tuple)
        self.assertEqual([type(part) for part in asked], [list, list])

    def test_own_lists(self):
        samples.check_own(self, through, [(1, 0), (0, 1), (0, 0)], [at(0, 0), at(0, 0)])
        samples.check_own(self, through, [(0, 0), (1, 0)], [at(3, 5)])


class Refused(unittest.TestCase):
    def test_too_few_slopes(self):
        refused(self, NoDealing, through, [], [])
        refused(self, NoDealing, through, [(0, 0)], [])
        refused(self, NoDealing, through, [(0, 0)], [at(0, 0)])
        refused(self, NoDealing, through, [], [at(0, 0)])

    def test_too_many_slopes(self):
        for count in (7, 8, 30):
            refused(self, NoDealing, through, ALL_SLOPES[:count], [at(k, k) for k in range(count - 1)])

    def test_like_slopes(self):
        refused(self, NoDealing, through, [(1, 2), (1, 2)], [at(0, 0)])
        refused(self, NoDealing, through, [(0, 0), (1, 2), (3, 3), (1, 2)], [at(0, 0), at(1, 0), at(2, 0)])
        refused(self, NoDealing, through, [(0, 0), (1, 2), (1, 2)], [at(0, 0)])

    def test_another_number_of_points(self):
        for count in range(2, 7):
            for many in (0, count - 2, count, count + 1):
                refused(self, NoDealing, through, ALL_SLOPES[:count], [at(k, -k) for k in range(many)])


if __name__ == "__main__":
    unittest.main()
