import math
import unittest
from fractions import Fraction

import samples
from creasecurve.bends import bends
from creasecurve.corners import corners
from creasecurve.errors import NoCorner, RoofError
from creasecurve.lines import along
from creasecurve.pieces import leaving, pieces
from creasecurve.texts import read
from creasecurve.thinning import thinned
from creasecurve.tops import tops
from samples import at, inner_point, plane, real

HAIR = Fraction(1, 10 ** 30 - 1)


def stretch(roof, one, other, start, step):
    """The least and the greatest t, None where there is none, between which both are on top; or no tuple at all."""
    low = high = None
    for third in roof:
        slant = (third[0] - one[0]) * step[0] + (third[1] - one[1]) * step[1]
        rise = samples.height_of(third, start) - samples.height_of(one, start)
        if slant == 0 and rise > 0:
            return None
        if slant > 0 and (high is None or -rise / slant < high):
            high = -rise / slant
        if slant < 0 and (low is None or -rise / slant > low):
            low = -rise / slant
    return None if low is not None and high is not None and low >= high else (low, high)


def expected_piece(roof, one, other):
    a, b = other[0] - one[0], other[1] - one[1]
    weight = math.gcd(a, b)
    u, v = max((b // weight, -a // weight), (-b // weight, a // weight))
    rise = real(one[2]) - real(other[2])
    start = (rise / a, Fraction(0)) if a != 0 else (Fraction(0), rise / b)
    found = stretch(roof, one, other, at(*start), (u, v))
    if found is None:
        return None
    ends = [at(start[0] + t * u, start[1] + t * v) for t in found if t is not None]
    step = (-u, -v) if found[0] is None and found[1] is not None else (u, v)
    return (one[:2], other[:2], ends, step, weight)


def expected_pieces(roof):
    stay = thinned(roof)
    found = [expected_piece(roof, one, other) for k, one in enumerate(stay) for other in stay[k + 1:]]
    return [piece for piece in found if piece is not None]


def expected_leaving(roof, point):
    rows = []
    for one, other, ends, (u, v), weight in pieces(roof):
        if point in ends:
            rows.append(((u, v) if point == ends[0] else (-u, -v), weight))
    return sorted(rows)


class Pieces(unittest.TestCase):
    def test_one_end_each(self):
        self.assertEqual(pieces(read("0 0 0; 0 1 0; 1 0 -3/2")), [
            ((0, 0), (0, 1), [at("3/2", 0)], (-1, 0), 1),
            ((0, 0), (1, 0), [at("3/2", 0)], (0, -1), 1),
            ((0, 1), (1, 0), [at("3/2", 0)], (1, 1), 1)])

    def test_two_ends(self):
        self.assertEqual(pieces(read("0 0 0; 0 1 0; 1 0 0; 1 1 -1")), [
            ((0, 0), (0, 1), [at(0, 0)], (-1, 0), 1),
            ((0, 0), (1, 0), [at(0, 0)], (0, -1), 1),
            ((0, 1), (1, 0), [at(0, 0), at(1, 1)], (1, 1), 1),
            ((0, 1), (1, 1), [at(1, 1)], (0, 1), 1),
            ((1, 0), (1, 1), [at(1, 1)], (1, 0), 1)])

    def test_two_ends_with_like_x(self):
        roof = read("0 1 0; 2 1 0; 1 0 -1; 1 2 -3")
        self.assertIn(((0, 1), (2, 1), [at(0, -1), at(0, 3)], (0, 1), 2), pieces(roof))

    def test_two_ends_with_falling_y(self):
        roof = read("0 0 0; 1 1 0; 0 1 -2; 1 0 -2")
        self.assertIn(((0, 0), (1, 1), [at(-2, 2), at(2, -2)], (1, -1), 1), pieces(roof))

    def test_no_end(self):
        self.assertEqual(pieces(read("0 0 0; 1 0 -3")), [((0, 0), (1, 0), [], (0, 1), 1)])
        self.assertEqual(pieces(read("0 0 0; 0 6 -3")), [((0, 0), (0, 6), [], (1, 0), 6)])
        self.assertEqual(pieces(read("0 0 0; 2 4 1/3")), [((0, 0), (2, 4), [], (2, -1), 2)])
        self.assertEqual(pieces(read("0 8 0; 6 0 1/3")), [((0, 8), (6, 0), [], (4, 3), 2)])

    def test_no_piece(self):
        self.assertEqual(pieces(read("5 5 -1/7")), [])

    def test_slopes_on_one_line(self):
        self.assertEqual(pieces(read("0 0 0; 1 1 -1; 2 2 -5; 8 8 -99; 4 4 -50")), [
            ((0, 0), (1, 1), [], (1, -1), 1),
            ((1, 1), (2, 2), [], (1, -1), 1),
            ((2, 2), (8, 8), [], (1, -1), 6)])

    def test_planes_that_meet_in_one_point_have_no_piece(self):
        square = read("0 0 0; 0 1 0; 1 0 0; 1 1 0")
        self.assertEqual([piece[:2] for piece in pieces(square)],
                         [((0, 0), (0, 1)), ((0, 0), (1, 0)), ((0, 1), (1, 1)), ((1, 0), (1, 1))])

    def test_planes_that_are_struck_out_have_no_piece(self):
        self.assertEqual(pieces(read("0 0 0; 1 0 0; 2 0 0; 1 5 -9; 2 5 -9; 0 5 -9")),
                         pieces(read("0 0 0; 2 0 0; 2 5 -9; 0 5 -9")))
        self.assertEqual(pieces(read("0 0 0; 1 1 0; 0 3 0; 3 0 0")), pieces(read("0 0 0; 0 3 0; 3 0 0")))

    def test_a_hair_long(self):
        roof = [plane(0, 0, 0), plane(0, 1, 0), plane(1, 0, 0), plane(1, 1, -HAIR)]
        self.assertIn(((0, 1), (1, 0), [at(0, 0), at(HAIR, HAIR)], (1, 1), 1), pieces(roof))

    def test_by_another_way(self):
        for roof in samples.sample_roofs():
            self.assertEqual(pieces(roof), expected_pieces(roof))

    def test_heights_with_many_figures(self):
        for figures in (30, 60):
            roof = samples.long_roof(figures)
            self.assertEqual(pieces(roof), expected_pieces(roof))

    def test_as_many_planes_as_pieces_less_corners_and_one(self):
        for roof in samples.sample_roofs():
            self.assertEqual(len(thinned(roof)), len(pieces(roof)) - len(corners(roof)) + 1)

    def test_kinds(self):
        for roof in samples.sample_roofs():
            for piece in pieces(roof):
                self.check_kinds(piece)

    def check_kinds(self, piece):
        one, other, ends, step, weight = piece
        self.assertIs(type(piece), tuple)
        self.assertLess(one, other)
        self.assertIs(type(ends), list)
        self.assertEqual([type(number) for number in step], [int, int])
        self.assertEqual(math.gcd(step[0], step[1]), 1)
        self.assertIs(type(weight), int)

    def test_ends_are_corners_and_both_are_on_top(self):
        for roof in samples.sample_roofs():
            told_corners = corners(roof)
            for piece in pieces(roof):
                for end in piece[2]:
                    self.assertIn(end, told_corners)
                for point in piece[2] + [at(*inner_point(piece, roof))]:
                    self.assertIn(piece[0], tops(roof, point))
                    self.assertIn(piece[1], tops(roof, point))

    def test_a_line_over_a_piece_bends_by_its_weight(self):
        for roof in samples.sample_roofs()[::3]:
            for piece in pieces(roof):
                point = at(*inner_point(piece, roof))
                if len(tops(roof, point)) == 2:
                    self.check_bends(roof, piece, point)

    def check_bends(self, roof, piece, point):
        p, q = piece[3]
        for u, v in ((1, 0), (0, -1), (3, 2), (-2, 5), piece[3]):
            there = [weight for place, weight in bends(along(roof, point, (u, v)))[2] if place == (0, 1)]
            bend = piece[4] * abs(u * q - v * p)
            self.assertEqual(there, [bend] if bend != 0 else [])

    def test_own_lists(self):
        samples.check_own(self, pieces, read("0 0 0; 0 1 0; 1 0 0; 1 1 -1"))
        samples.check_own(self, pieces, read("0 0 0; 1 0 0"))


class Leaving(unittest.TestCase):
    def test_three_leave(self):
        roof = read("0 0 0; 0 1 0; 1 0 -3/2")
        self.assertEqual(leaving(roof, at("3/2", 0)), [((-1, 0), 1), ((0, -1), 1), ((1, 1), 1)])

    def test_both_ends_of_a_piece(self):
        roof = read("0 0 0; 0 2 0; 2 0 0; 2 2 -2")
        self.assertEqual(leaving(roof, at(0, 0)), [((-1, 0), 2), ((0, -1), 2), ((1, 1), 2)])
        self.assertEqual(leaving(roof, at(1, 1)), [((-1, -1), 2), ((0, 1), 2), ((1, 0), 2)])

    def test_more_than_three_on_top(self):
        self.assertEqual(leaving(read("0 0 0; 0 1 0; 1 0 0; 1 1 0"), at(0, 0)),
                         [((-1, 0), 1), ((0, -1), 1), ((0, 1), 1), ((1, 0), 1)])
        grid = [plane(i, j, -i - 2 * j) for i in range(4) for j in range(4)]
        self.assertEqual(leaving(grid, at(1, 2)), [((-1, 0), 3), ((0, -1), 3), ((0, 1), 3), ((1, 0), 3)])

    def test_unlike_weights(self):
        self.assertEqual(leaving(read("0 0 0; 0 3 0; 1 1 0; 3 0 0"), at(0, 0)),
                         [((-1, 0), 3), ((0, -1), 3), ((1, 1), 3)])
        self.assertEqual(leaving(read("0 0 0; 4 0 0; 4 2 0"), at(0, 0)), [((-1, 2), 2), ((0, -1), 4), ((1, 0), 2)])

    def test_just_the_pieces_that_end_there(self):
        for roof in samples.sample_roofs():
            for point in corners(roof):
                rows = leaving(roof, point)
                self.assertIs(type(rows), list)
                self.assertEqual(rows, expected_leaving(roof, point))
                self.assertGreaterEqual(len(rows), 3)

    def test_all_steps_sum_to_nought(self):
        for roof in samples.sample_roofs():
            for point in corners(roof):
                rows = leaving(roof, point)
                self.assertEqual(sum(step[0] * weight for step, weight in rows), 0)
                self.assertEqual(sum(step[1] * weight for step, weight in rows), 0)

    def check_refused(self, roof, point):
        with self.assertRaises(RoofError) as taken:
            leaving(roof, point)
        self.assertIs(type(taken.exception), NoCorner)

    def test_no_corner_is_refused(self):
        roof = read("0 0 0; 0 1 0; 1 0 0; 1 1 -1")
        for point in (at("1/2", "1/2"), at(-1, 0), at(0, -2), at(1, 2), at(5, 1), at(-3, -3), at(9, 9), at(HAIR, 0),
                      at(HAIR, HAIR), at(0, -HAIR)):
            self.check_refused(roof, point)

    def test_three_on_one_line_on_top_are_no_corner(self):
        self.check_refused(read("0 0 0; 1 0 0; 2 0 0"), at(0, 5))
        self.check_refused(read("0 0 0; 1 1 0; 4 4 0; 0 8 -99"), at(1, -1))

    def test_roofs_without_corners(self):
        for text in ("3 4 1/2", "0 0 0; 5 8 -1/3", "0 0 0; 1 1 -1; 2 2 -5"):
            self.check_refused(read(text), at(0, 0))
            self.check_refused(read(text), at("1/2", "1/2"))

    def test_own_lists(self):
        samples.check_own(self, leaving, read("0 0 0; 0 2 0; 2 0 0; 2 2 -2"), at(0, 0))


if __name__ == "__main__":
    unittest.main()
