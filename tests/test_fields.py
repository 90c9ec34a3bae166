import math
import unittest
from fractions import Fraction

import samples
from creasecurve.corners import corners
from creasecurve.fields import field, fields, lands
from creasecurve.hulls import area, hull
from creasecurve.pieces import leaving, pieces
from creasecurve.texts import read
from creasecurve.thinning import staying, thinned
from creasecurve.tops import tops
from samples import at, inner_point, plane, sides, slopes_of, turn

SQUARE = "0 0 0; 0 1 0; 1 0 0; 1 1 0"
TWO_CORNERS = "0 0 0; 0 1 0; 1 0 0; 1 1 -1"
TENT = "0 0 0; 0 2 0; 1 1 1; 2 0 0; 2 2 0"
ON_A_LINE = "0 0 0; 1 1 -1; 2 2 -5; 8 8 -99"
HAIR = Fraction(1, 10 ** 30 - 1)
DIRECTIONS = [(u, v) for u in range(-9, 10) for v in range(-9, 10) if math.gcd(u, v) == 1]


def goes_for_ever(roof, slope):
    """Whether some direction leads away without end along which no plane rises more than this one."""
    def rise(other, step):
        return other[0] * step[0] + other[1] * step[1]

    return any(rise(slope, step) == max(rise(other, step) for other in slopes_of(roof)) for step in DIRECTIONS)


def is_apart(one, other):
    """Whether a side of the one field has all of the other on its outer side or on it."""
    return any(all(turn(a, b, slope) <= 0 for slope in other) for a, b in sides(one))


class Field(unittest.TestCase):
    def test_off_the_creases(self):
        roof = read(TWO_CORNERS)
        self.assertEqual(field(roof, at(-1, -1)), [(0, 0)])
        self.assertEqual(field(roof, at(2, 2)), [(1, 1)])
        self.assertEqual(field(roof, at("1/2", 0)), [(1, 0)])

    def test_on_a_piece(self):
        roof = read(TWO_CORNERS)
        self.assertEqual(field(roof, at("1/2", "1/2")), [(0, 1), (1, 0)])
        self.assertEqual(field(roof, at(0, "-1/3")), [(0, 0), (1, 0)])
        self.assertEqual(field(roof, at(HAIR, HAIR)), [(0, 1), (1, 0)])

    def test_at_a_corner(self):
        self.assertEqual(field(read(TWO_CORNERS), at(0, 0)), [(0, 0), (1, 0), (0, 1)])
        self.assertEqual(field(read(TWO_CORNERS), at(1, 1)), [(0, 1), (1, 0), (1, 1)])

    def test_more_than_three_on_top(self):
        self.assertEqual(field(read(SQUARE), at(0, 0)), [(0, 0), (1, 0), (1, 1), (0, 1)])
        grid = [plane(i, j, -i - 2 * j) for i in range(4) for j in range(4)]
        self.assertEqual(field(grid, at(1, 2)), [(0, 0), (3, 0), (3, 3), (0, 3)])
        self.assertEqual(field(grid, at(1, 3)), [(0, 3), (3, 3)])
        self.assertEqual(field(grid, at(0, 3)), [(0, 3)])

    def test_planes_that_are_struck_out_are_no_end_of_it(self):
        roof = read("0 0 0; 0 3 0; 1 1 0; 3 0 0")
        self.assertEqual(field(roof, at(0, 0)), [(0, 0), (3, 0), (0, 3)])
        self.assertEqual(field(read("0 0 0; 1 1 0; 2 2 0"), at(3, -3)), [(0, 0), (2, 2)])

    def test_one_and_two_planes(self):
        self.assertEqual(field(read("3 4 1/2"), at(7, "-1/9")), [(3, 4)])
        self.assertEqual(field(read("0 0 0; 2 4 -2"), at(1, 0)), [(0, 0), (2, 4)])
        self.assertEqual(field(read("0 0 0; 2 4 -2"), at(1, 1)), [(2, 4)])

    def test_as_many_tuples_as_the_point_asks(self):
        for roof in samples.sample_roofs():
            for point in corners(roof):
                self.assertGreaterEqual(len(field(roof, point)), 3)
            for one, other, ends, step, weight in pieces(roof):
                point = at(*inner_point((one, other, ends, step, weight), roof))
                self.assertEqual(field(roof, point), [one, other])
            for one, point in staying(roof):
                self.assertEqual(field(roof, point), [one[:2]])

    def test_hull_of_the_tops(self):
        points = [at(x, Fraction(y, 2)) for x in range(-2, 9, 2) for y in (-7, 0, 2, 9)]
        for roof in samples.sample_roofs():
            for point in points + corners(roof):
                self.assertEqual(field(roof, point), hull(tops(roof, point)))

    def test_own_lists(self):
        samples.check_own(self, field, read(SQUARE), at(0, 0))
        samples.check_own(self, field, read("3 4 1/2"), at(0, 0))


class Fields(unittest.TestCase):
    def test_in_the_order_of_corners(self):
        self.assertEqual(fields(read(TWO_CORNERS)), [
            (at(0, 0), [(0, 0), (1, 0), (0, 1)]),
            (at(1, 1), [(0, 1), (1, 0), (1, 1)])])
        self.assertEqual(fields(read(SQUARE)), [(at(0, 0), [(0, 0), (1, 0), (1, 1), (0, 1)])])

    def test_four_round_the_middle(self):
        self.assertEqual(fields(read(TENT)), [
            (at(-1, 0), [(0, 0), (1, 1), (0, 2)]),
            (at(0, -1), [(0, 0), (2, 0), (1, 1)]),
            (at(0, 1), [(0, 2), (1, 1), (2, 2)]),
            (at(1, 0), [(1, 1), (2, 0), (2, 2)])])

    def test_none(self):
        for text in ("3 4 1/2", "0 0 0; 5 8 -1/3", ON_A_LINE, "3 0 0; 3 1 2; 3 7 1"):
            self.assertEqual(fields(read(text)), [])

    def test_each_corner_has_its_field(self):
        for roof in samples.sample_roofs():
            self.assertEqual(fields(roof), [(point, field(roof, point)) for point in corners(roof)])

    def test_areas_sum_to_that_of_all_slopes(self):
        for roof in samples.sample_roofs() + [samples.long_roof(30), samples.long_roof(60)]:
            self.assertEqual(sum(area(row) for point, row in fields(roof)), area(slopes_of(roof)))

    def test_no_two_overlap(self):
        for roof in samples.sample_roofs()[::2]:
            rows = [row for point, row in fields(roof)]
            for k, one in enumerate(rows):
                for other in rows[k + 1:]:
                    self.assertTrue(is_apart(one, other) or is_apart(other, one))

    def test_each_side_is_a_step_that_leaves(self):
        for roof in samples.sample_roofs():
            for point, row in fields(roof):
                steps = []
                for k, (i, j) in enumerate(row):
                    p, q = row[(k + 1) % len(row)]
                    a, b = p - i, q - j
                    w = math.gcd(a, b)
                    steps.append(((b // w, -a // w), w))
                self.assertEqual(sorted(steps), leaving(roof, point))

    def test_kinds(self):
        for roof in samples.sample_roofs()[::5]:
            rows = fields(roof)
            self.assertIs(type(rows), list)
            for row in rows:
                self.assertIs(type(row), tuple)
                self.assertIs(type(row[1]), list)

    def test_own_lists(self):
        samples.check_own(self, fields, read(TWO_CORNERS))


class Lands(unittest.TestCase):
    def test_none_is_closed(self):
        self.assertEqual(lands(read(TWO_CORNERS)), [
            ((0, 0), False, [at(0, 0)]),
            ((0, 1), False, [at(0, 0), at(1, 1)]),
            ((1, 0), False, [at(0, 0), at(1, 1)]),
            ((1, 1), False, [at(1, 1)])])

    def test_the_middle_one_is_closed(self):
        self.assertEqual(lands(read(TENT)), [
            ((0, 0), False, [at(-1, 0), at(0, -1)]),
            ((0, 2), False, [at(-1, 0), at(0, 1)]),
            ((1, 1), True, [at(-1, 0), at(0, -1), at(0, 1), at(1, 0)]),
            ((2, 0), False, [at(0, -1), at(1, 0)]),
            ((2, 2), False, [at(0, 1), at(1, 0)])])

    def test_on_a_side_of_the_hull_is_not_closed(self):
        roof = read("0 0 0; 1 0 1; 2 0 0; 0 2 0")
        self.assertEqual([row[:2] for row in lands(roof)],
                         [((0, 0), False), ((0, 2), False), ((1, 0), False), ((2, 0), False)])

    def test_on_a_slanted_side_is_not_closed(self):
        roof = read("0 0 0; 0 4 0; 1 2 9; 2 2 8; 4 0 0; 1 1 8")
        closed = {slope: told for slope, told, points in lands(roof)}
        self.assertEqual(closed, {(0, 0): False, (0, 4): False, (1, 1): True, (1, 2): True, (2, 2): False,
                                  (4, 0): False})

    def test_one_plane_two_planes_and_slopes_on_one_line(self):
        self.assertEqual(lands(read("3 4 1/2")), [((3, 4), False, [])])
        self.assertEqual(lands(read("0 0 0; 5 8 -1/3")), [((0, 0), False, []), ((5, 8), False, [])])
        self.assertEqual(lands(read(ON_A_LINE)), [((k, k), False, []) for k in (0, 1, 2, 8)])
        self.assertEqual(lands(read("3 0 0; 3 1 2; 3 7 1")), [((3, j), False, []) for j in (0, 1, 7)])

    def test_only_planes_that_stay_have_one(self):
        self.assertEqual(lands(read("0 0 0; 0 3 0; 1 1 0; 3 0 0")),
                         [((0, 0), False, [at(0, 0)]), ((0, 3), False, [at(0, 0)]), ((3, 0), False, [at(0, 0)])])
        self.assertEqual(lands(read("0 0 0; 1 1 0; 2 2 0")), [((0, 0), False, []), ((2, 2), False, [])])

    def test_one_corner_of_many_planes(self):
        grid = [plane(i, j, -i - 2 * j) for i in range(4) for j in range(4)]
        self.assertEqual(lands(grid), [(slope, False, [at(1, 2)]) for slope in ((0, 0), (0, 3), (3, 0), (3, 3))])

    def test_by_another_way(self):
        for roof in samples.sample_roofs():
            points = corners(roof)
            expected = []
            for slope in slopes_of(thinned(roof)):
                here = [point for point in points if slope in tops(roof, point)]
                expected.append((slope, not goes_for_ever(roof, slope), here))
            self.assertEqual(lands(roof), expected)

    def test_kinds(self):
        for roof in samples.sample_roofs()[::5]:
            for row in lands(roof):
                self.assertEqual([type(part) for part in row], [tuple, bool, list])

    def test_own_lists(self):
        samples.check_own(self, lands, read(TENT))
        samples.check_own(self, lands, read("0 0 0; 5 8 -1/3"))


if __name__ == "__main__":
    unittest.main()
