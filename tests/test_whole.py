"""What the document promises over the whole program, over roofs that are drawn by chances."""

import math
import unittest
from fractions import Fraction

import samples
from creasecurve.bends import bends, unbent
from creasecurve.corners import corners
from creasecurve.fields import field, fields
from creasecurve.hulls import area, hull
from creasecurve.lines import along, line_height
from creasecurve.meetings import meetings, mixed
from creasecurve.papers import Alone, Mixture, papers
from creasecurve.pieces import leaving, pieces
from creasecurve.roofs import height_at, roof_of
from creasecurve.sums import added, moved, raised
from creasecurve.thinning import staying, struck, thinned
from creasecurve.through import through
from creasecurve.tops import tops
from samples import ALL_SLOPES, at, height_of, inner_point, plane, real, slopes_of, told

KINDS = ("flat", "bowl", "dome", "long")
HALF = [(i, j) for i in range(5) for j in range(5)]
STEPS = [(1, 0), (0, 1), (1, 1), (2, -3), (-5, 1), (0, 0)]
HAIR = Fraction(1, 10 ** 30 - 1)


def drawn_roofs():
    roofs = []
    for seed in range(64):
        row = samples.chances(1000 + seed)
        count = 1 + next(row) % 16
        slopes = samples.some_slopes(row, 2 + next(row) % 30, ALL_SLOPES)
        roofs.append(samples.made_roof(5000 + seed, count, slopes, KINDS[seed % 4]))
    return roofs


def drawn_pairs():
    """Pairs of roofs that have a sum."""
    pairs = []
    for seed in range(48):
        row = samples.chances(2000 + seed)
        one = samples.made_roof(6000 + seed, 1 + next(row) % 4, HALF, KINDS[seed % 4])
        other = samples.made_roof(7000 + seed, 1 + next(row) % 4, HALF, KINDS[seed // 4 % 4])
        pairs.append((one, other))
    return pairs


def with_low_planes(roof):
    """The roof and planes of further slopes that are nowhere above it."""
    planes = list(roof)
    for one in roof:
        for other in roof:
            i, j = one[0] + other[0], one[1] + other[1]
            if i % 2 == 0 and j % 2 == 0 and len(set(slopes_of(planes) + [(i // 2, j // 2)])) <= 16:
                planes.append(plane(i // 2, j // 2, (real(one[2]) + real(other[2])) / 2))
    return roof_of(planes)


def crease_points(roof):
    return corners(roof) + [at(*inner_point(piece, roof)) for piece in pieces(roof)]


class Thinned(unittest.TestCase):
    def test_as_high_as_one_another_where_thinned_alike(self):
        seen = 0
        for roof in drawn_roofs():
            fuller = with_low_planes(roof)
            seen += fuller != roof
            self.assertEqual(thinned(fuller), thinned(roof))
            self.check_as_high(fuller, roof)
        self.assertGreater(seen, 15)

    def check_as_high(self, one, other):
        points = crease_points(one) + crease_points(other) + [point for part, point in staying(one) + staying(other)]
        for point in points:
            self.assertEqual(height_at(one, point), height_at(other, point))

    def test_not_as_high_where_not_thinned_alike(self):
        for roof in drawn_roofs():
            for one, point in staying(roof):
                other = [plane(i, j, real(height) - HAIR) if (i, j, height) == one else (i, j, height)
                         for i, j, height in roof]
                self.assertNotEqual(thinned(other), thinned(roof))
                self.assertNotEqual(height_at(other, point), height_at(roof, point))

    def test_mixtures_and_points(self):
        for roof in drawn_roofs():
            stay = thinned(roof)
            self.assertEqual(sorted([one for one, point in staying(roof)] + [one for one, parts in struck(roof)]), roof)
            for one, parts in struck(roof):
                self.assertLessEqual(len(parts), 3)
                self.assertTrue(all(part in stay for share, part in parts))
                self.assertTrue(Mixture(one, parts).holds(roof))
            for one, point in staying(roof):
                self.assertTrue(Alone(one, point).holds(roof))
                self.assertTrue(all(height_of(other, point) < height_of(one, point) for other in roof if other != one))

    def test_each_paper_holds(self):
        for roof in drawn_roofs():
            self.assertTrue(all(paper.holds(roof) for paper in papers(roof)))


class Creases(unittest.TestCase):
    def test_steps_times_weights_sum_to_nought(self):
        for roof in drawn_roofs():
            for point in corners(roof):
                rows = leaving(roof, point)
                self.assertEqual(sum(u * weight for (u, v), weight in rows), 0)
                self.assertEqual(sum(v * weight for (u, v), weight in rows), 0)

    def test_a_side_of_the_field_for_each_piece(self):
        for roof in drawn_roofs():
            for point, row in fields(roof):
                met = []
                for one, other in zip(row, row[1:] + row[:1]):
                    a, b = other[0] - one[0], other[1] - one[1]
                    fits = [(step, weight) for step, weight in leaving(roof, point)
                            if step[0] * a + step[1] * b == 0 and step[0] * b - step[1] * a > 0]
                    self.assertEqual([weight for step, weight in fits], [math.gcd(a, b)])
                    met.extend(fits)
                self.assertEqual(sorted(met), leaving(roof, point))

    def test_areas_of_fields(self):
        for roof in drawn_roofs():
            self.assertEqual(sum(area(row) for point, row in fields(roof)), area(slopes_of(roof)))


class Sums(unittest.TestCase):
    def sums(self):
        found = [(one, other, roof_sum(one, other)) for one, other in drawn_pairs()]
        return [row for row in found if row[2] is not None]

    def test_fields_of_a_sum(self):
        for one, other, roof in self.sums():
            for point in crease_points(one) + crease_points(other) + crease_points(roof):
                sums = [(a + c, b + d) for a, b in tops(one, point) for c, d in tops(other, point)]
                self.assertEqual(field(roof, point), hull(sums))

    def test_creases_of_a_sum_are_those_of_both(self):
        for one, other, roof in self.sums():
            for point in (at(0, 0), at("7/3", "-5/2")):
                for step in STEPS:
                    weights = {}
                    for part in (one, other):
                        for place, weight in bends(along(part, point, step))[2]:
                            weights[place] = weights.get(place, 0) + weight
                    self.assertEqual(dict(bends(along(roof, point, step))[2]), weights)

    def test_there_are_many(self):
        self.assertGreater(len(self.sums()), 40)


def roof_sum(one, other):
    slopes = {(a[0] + b[0], a[1] + b[1]) for a in one for b in other}
    return added(one, other) if len(slopes) <= 16 else None


class Meetings(unittest.TestCase):
    def test_counts_however_both_are_moved(self):
        roofs = drawn_roofs()
        for k, (one, other) in enumerate(zip(roofs, roofs[9:] + roofs[:9])):
            sums = [(a + c, b + d) for a, b in slopes_of(one) for c, d in slopes_of(other)]
            more = area(sums) - area(slopes_of(one)) - area(slopes_of(other))
            self.assertEqual(2 * mixed(slopes_of(one), slopes_of(other)), more)
            for there in (other, moved(other, at(Fraction(k, 7), Fraction(5 - k, 3))), moved(other, at(0, k * HAIR))):
                self.assertEqual(2 * sum(count for point, count in meetings(one, there)), more)


class Lines(unittest.TestCase):
    def test_a_raised_sum_of_single_bends_in_one_way(self):
        for roof in drawn_roofs():
            for step in STEPS:
                line = along(roof, at("1/2", "-2/3"), step)
                slope, height, rows = bends(line)
                self.assertEqual(unbent(slope, height, rows), line)
                self.assertEqual(bends(unbent(slope, height, rows[::-1])), (slope, height, rows))
                for t in (Fraction(-9), Fraction(0), Fraction(7, 3)):
                    summed = slope * t + real(height) + sum(weight * max(t - real(place), 0) for place, weight in rows)
                    self.assertEqual(real(line_height(line, told(t))), summed)
                    there = at(Fraction(1, 2) + t * step[0], Fraction(-2, 3) + t * step[1])
                    self.assertEqual(real(height_at(roof, there)), summed)


class Through(unittest.TestCase):
    def test_two_planes_on_top_at_each_point(self):
        for seed in range(60):
            row = samples.chances(3000 + seed)
            slopes = samples.some_slopes(row, 2 + seed % 5, ALL_SLOPES)
            points = [at(Fraction(next(row) % 19 - 9, 1 + seed % 4), next(row) % 9 - 4) for slope in slopes[1:]]
            roof, doubles = through(slopes, points)
            self.assertEqual(slopes_of(roof), slopes)
            self.assertTrue(all(len(tops(roof, point)) >= 2 for point in points))

    def test_the_only_one_where_each_dealing_is_best_once(self):
        seen = 0
        for roof in drawn_roofs():
            stay = thinned(roof)[:6]
            found = pieces(stay)
            points = [at(*inner_point(piece, stay)) for piece in found][:len(stay) - 1]
            if len(stay) >= 2 and len(points) == len(stay) - 1:
                told_roof, doubles = through(slopes_of(stay), points)
                if doubles == []:
                    self.assertEqual(raised(told_roof, stay[0][2]), stay)
                    seen += 1
        self.assertGreater(seen, 10)


if __name__ == "__main__":
    unittest.main()
