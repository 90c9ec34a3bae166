import itertools
import unittest
from fractions import Fraction

import samples
from creasecurve.fields import field, fields
from creasecurve.hulls import area
from creasecurve.meetings import meetings, mixed
from creasecurve.pieces import pieces
from creasecurve.sums import moved, raised
from creasecurve.texts import read
from creasecurve.thinning import thinned
from creasecurve.tops import tops
from samples import BIG, at, expected_mixed, plane, real, shift, slopes_of, tuple_lists

TRIPOD = "0 0 0; 0 1 0; 1 0 0"
SHIFTS = [at(1, 0), at("-3/2", "5/7"), at(Fraction(1, 10 ** 30 - 1), -10 ** 30)]


def level_lines(roof):
    """For each two planes the tuple (a, b, c): they are level where a x + b y = c."""
    return [(d[0] - c[0], d[1] - c[1], real(c[2]) - real(d[2])) for c, d in itertools.combinations(roof, 2)]


def expected_meetings(one, other):
    found = set()
    for a, b, c in level_lines(one):
        for d, e, f in level_lines(other):
            if a * e != b * d:
                found.add(((c * e - b * f) / (a * e - b * d), (a * f - c * d) / (a * e - b * d)))
    counts = [(at(x, y), expected_mixed(tops(one, at(x, y)), tops(other, at(x, y)))) for x, y in sorted(found)]
    return [(point, count) for point, count in counts if count > 0]


def pairs():
    roofs = [roof for roof in samples.sample_roofs() if len(roof) <= 6]
    return list(zip(roofs[::2], roofs[1::2])) + list(zip(roofs, roofs[40:] + roofs[:40]))[::3]


def piece_step(roof, pair):
    for one, other, ends, step, weight in pieces(roof):
        if [one, other] == pair:
            return step, weight


class Mixed(unittest.TestCase):
    def test_plain(self):
        triangle = [(0, 0), (1, 0), (0, 1)]
        square = [(0, 0), (1, 0), (0, 1), (1, 1)]
        self.assertEqual(mixed(triangle, triangle), 1)
        self.assertEqual(mixed(square, square), 2)
        self.assertEqual(mixed(triangle, square), 2)
        self.assertEqual(mixed(square, triangle), 2)
        self.assertEqual(mixed(triangle, [(0, 0), (-1, 0), (0, -1)]), 2)

    def test_two_sides(self):
        self.assertEqual(mixed([(0, 0), (3, 0)], [(0, 0), (0, 5)]), 15)
        self.assertEqual(mixed([(0, 0), (1, 2)], [(7, 7), (10, 8)]), 5)

    def test_one_tuple(self):
        for others in tuple_lists():
            self.assertEqual(mixed([(4, -7)], others), 0)
            self.assertEqual(mixed(others, [(4, -7)] * 5), 0)

    def test_on_one_line(self):
        line = [(k, 2 * k - 1) for k in (3, -4, 0, 9, 9)]
        self.assertEqual(mixed(line, line), 0)
        self.assertEqual(mixed(line, [(5, 5), (6, 7)]), 0)
        self.assertEqual(mixed(line, [(5, 5), (6, 6)]), 13)
        self.assertEqual(mixed(line, [(0, 0), (1, 0), (0, 1)]), 39)

    def test_with_itself(self):
        for slopes in tuple_lists():
            self.assertEqual(mixed(slopes, slopes), area(slopes))
            self.assertEqual(mixed(slopes, slopes + slopes[::-1]), area(slopes))

    def test_the_documents_words(self):
        for slopes, others in zip(tuple_lists(), tuple_lists()[7:]):
            sums = [(a + c, b + d) for a, b in slopes for c, d in others]
            self.assertEqual(2 * mixed(slopes, others), area(sums) - area(slopes) - area(others))

    def test_by_another_way(self):
        for slopes, others in zip(tuple_lists(), tuple_lists()[11:]):
            self.assertEqual(mixed(slopes, others), expected_mixed(slopes, others))
            self.assertEqual(mixed(others, slopes), expected_mixed(slopes, others))
            self.assertIs(type(mixed(slopes, others)), int)

    def test_a_hundred_tuples(self):
        curve = [(k, k * k) for k in range(-50, 50)]
        other = [(-k * k, BIG * k) for k in range(100)]
        self.assertEqual(mixed(curve[::-1], other), expected_mixed(curve, other))
        self.assertEqual(mixed([(3, 4)] * 100, curve), 0)

    def test_wherever_they_lie(self):
        for slopes, others in zip(tuple_lists(), tuple_lists()[3:]):
            self.assertEqual(mixed([(i - BIG, j + 5) for i, j in slopes], others), mixed(slopes, others))

    def test_own_lists(self):
        samples.check_own(self, mixed, [(0, 0), (1, 0), (0, 1)], [(0, 0), (3, -1), (0, 1), (1, 1)])


class Meetings(unittest.TestCase):
    def test_two_lines(self):
        self.assertEqual(meetings(read("0 0 0; 1 0 -3"), read("0 0 0; 0 1 -1/2")), [(at(3, "1/2"), 1)])
        self.assertEqual(meetings(read("0 0 0; 3 0 -3"), read("0 0 0; 0 5 -1")), [(at(1, "1/5"), 15)])
        self.assertEqual(meetings(read("0 0 0; 1 2 0"), read("5 0 0; 8 1 0")), [(at(0, 0), 5)])

    def test_a_line_over_two_pieces(self):
        self.assertEqual(meetings(read(TRIPOD), read("0 0 0; 1 1 -2")), [(at(1, 1), 2)])
        self.assertEqual(meetings(read(TRIPOD), read("0 0 0; 1 1 2")), [(at(-2, 0), 1), (at(0, -2), 1)])

    def test_a_line_through_a_corner(self):
        self.assertEqual(meetings(read(TRIPOD), read("0 0 0; 1 1 0")), [(at(0, 0), 2)])
        self.assertEqual(meetings(read("0 0 0; 2 1 0"), read(TRIPOD)), [(at(0, 0), 3)])

    def test_corner_on_corner(self):
        self.assertEqual(meetings(read(TRIPOD), read("0 1 0; 1 0 0; 1 1 0")), [(at(0, 0), 2)])

    def test_pieces_over_one_another(self):
        self.assertEqual(meetings(read("0 0 0; 1 0 0"), read("3 0 1; 8 0 1")), [])
        self.assertEqual(meetings(read(TRIPOD), moved(read(TRIPOD), at(2, 2))), [(at(2, 2), 1)])
        self.assertEqual(meetings(read(TRIPOD), moved(read(TRIPOD), at(-2, 0))), [(at(-2, 0), 1)])
        self.assertEqual(meetings(read(TRIPOD), read("0 0 0; 1 0 0")), [(at(0, 0), 1)])
        self.assertEqual(meetings(read(TRIPOD), read("0 1 -1; 1 0 -1")), [(at(0, 0), 1)])

    def test_a_roof_and_itself(self):
        for roof in samples.sample_roofs():
            self.assertEqual(meetings(roof, roof), [(point, area(row)) for point, row in fields(roof)])

    def test_none(self):
        self.assertEqual(meetings(read("3 4 1/2"), read(TRIPOD)), [])
        self.assertEqual(meetings(read(TRIPOD), read("0 0 7")), [])
        self.assertEqual(meetings(read("0 0 0"), read("0 0 0")), [])
        self.assertEqual(meetings(read("0 0 0; 1 2 0"), read("0 0 0; 2 4 -7")), [])
        self.assertEqual(meetings(read("0 0 0; 1 1 0; 2 2 -5"), read("3 3 0; 4 4 -9")), [])

    def test_in_the_order_of_points(self):
        lines = read("0 0 0; 1 0 -1/2; 2 0 -3; 3 0 -13")
        self.assertEqual(meetings(lines, read("0 0 0; 0 1 -1/3; 0 2 -11")), [
            (at("1/2", "1/3"), 1), (at("1/2", "32/3"), 1), (at("5/2", "1/3"), 1), (at("5/2", "32/3"), 1),
            (at(10, "1/3"), 1), (at(10, "32/3"), 1)])

    def test_planes_that_are_struck_out_change_nothing(self):
        one = read("0 0 0; 0 2 0; 1 1 0; 2 0 0; 2 2 0; 1 0 -3; 2 1 0")
        other = moved(one, at("1/3", "1/7"))
        self.assertEqual(meetings(one, other), meetings(thinned(one), other))
        self.assertEqual(meetings(one, other), meetings(one, thinned(other)))

    def test_by_another_way(self):
        for one, other in pairs():
            self.assertEqual(meetings(one, other), expected_meetings(one, other))

    def test_either_way_round(self):
        for one, other in pairs():
            self.assertEqual(meetings(one, other), meetings(other, one))

    def test_counts_sum_to_the_mixed_area_of_all_slopes(self):
        roofs = samples.sample_roofs()
        for one, other in zip(roofs, roofs[5:] + roofs[:5]):
            rows = meetings(one, other)
            self.assertEqual(sum(count for point, count in rows), mixed(slopes_of(one), slopes_of(other)))
            points = [(real(x), real(y)) for (x, y), count in rows]
            self.assertEqual(points, sorted(set(points)))

    def test_moved_with_both(self):
        for one, other in pairs()[::2]:
            for step in SHIFTS:
                expected = [(shift(point, step), count) for point, count in meetings(one, other)]
                self.assertEqual(meetings(moved(one, step), moved(other, step)), expected)

    def test_raising_changes_nothing(self):
        for one, other in pairs()[::5]:
            self.assertEqual(meetings(raised(one, (5, 3)), raised(other, (-1, 7))), meetings(one, other))

    def test_however_one_is_moved_the_sum_is_the_same(self):
        for one, other in pairs()[::4]:
            for step in SHIFTS:
                self.assertEqual(sum(count for point, count in meetings(one, moved(other, step))),
                                 mixed(slopes_of(one), slopes_of(other)))

    def test_where_two_pieces_meet_their_weights_are_multiplied(self):
        seen = 0
        for one, other in pairs():
            for point, count in meetings(one, other):
                if len(field(one, point)) == 2 and len(field(other, point)) == 2:
                    (u, v), weight = piece_step(one, field(one, point))
                    (p, q), times = piece_step(other, field(other, point))
                    self.assertEqual(count, weight * times * abs(u * q - v * p))
                    seen += 1
        self.assertGreater(seen, 100)

    def test_sixteen_planes_and_many_figures(self):
        bowl = [plane(i, j, -i * i - j * j) for i in range(4) for j in range(4)]
        for one, other in ((samples.long_roof(30), samples.long_roof(60)), (bowl, samples.long_roof(60)),
                           (bowl, moved(bowl, at("1/3", "1/7"))), (bowl, moved(bowl, at(1, 1)))):
            rows = meetings(one, other)
            self.assertEqual(sum(count for point, count in rows), mixed(slopes_of(one), slopes_of(other)))
            for point, count in rows:
                self.assertEqual(count, expected_mixed(tops(one, point), tops(other, point)))

    def test_kinds(self):
        for row in meetings(read(TRIPOD), read("0 0 0; 1 1 2")):
            self.assertEqual([type(part) for part in row], [tuple, int])

    def test_own_lists(self):
        samples.check_own(self, meetings, read(TRIPOD), read("0 0 0; 1 1 2"))
        samples.check_own(self, meetings, read(TRIPOD), read(TRIPOD))


if __name__ == "__main__":
    unittest.main()
