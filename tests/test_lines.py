import unittest
from fractions import Fraction

import samples
from creasecurve.errors import NoRoof
from creasecurve.lines import along, line_added, line_height, line_of, line_thinned
from creasecurve.roofs import height_at
from creasecurve.texts import read
from samples import at, real, rows_of, sample_lines, told

NINES = 10 ** 30 - 1
PLACES = sorted({Fraction(top, bottom) for top in range(-25, 26) for bottom in (1, 2, 3, 7)})


def real_height(line, t):
    return max(slope * t + real(height) for slope, height in line)


def crossings(line):
    """All places where two tuples are as high as one another, with places between and beyond these."""
    met = {(real(a[1]) - real(b[1])) / (b[0] - a[0]) for a in line for b in line if a[0] < b[0]}
    met = sorted(met) or [Fraction(0)]
    between = [(one + other) / 2 for one, other in zip(met, met[1:])]
    return sorted([met[0] - 1] + met + between + [met[-1] + 1])


def expected_thinned(line):
    alone = set()
    for t in crossings(line):
        best = [row for row in line if row[0] * t + real(row[1]) == real_height(line, t)]
        if len(best) == 1:
            alone.add(best[0])
    return [row for row in line if row in alone]


class Making(unittest.TestCase):
    def test_in_order(self):
        self.assertEqual(line_of(rows_of([(3, 0), (-2, "1/2"), (0, 5), (-10, 1)])),
                         rows_of([(-10, 1), (-2, "1/2"), (0, 5), (3, 0)]))

    def test_of_like_slopes_the_greatest_alone(self):
        rows = rows_of([(2, "-1/2"), (2, "-1/3"), (2, "-2/3"), (-1, "1/2"), (-1, "1/2")])
        for shown in (rows, rows[::-1], rows[2:] + rows[:2]):
            self.assertEqual(line_of(shown), rows_of([(-1, "1/2"), (2, "-1/3")]))

    def test_like_slopes_a_hair_apart(self):
        low = (4, (NINES, NINES + 1))
        high = (4, (NINES + 1, NINES + 2))
        self.assertEqual(line_of([low, high]), [high])
        self.assertEqual(line_of([high, low]), [high])

    def test_one_tuple(self):
        self.assertEqual(line_of([(-5, (1, 3))]), [(-5, (1, 3))])

    def test_a_hundred_tuples(self):
        rows = [(k * 37 % 100 - 50, (k, 3 * k + 1)) for k in range(100)]
        self.assertEqual(line_of(rows), sorted(rows))
        self.assertEqual(line_of([(7, (k, 1)) for k in range(100)]), [(7, (99, 1))])

    def test_nothing_is_struck_out(self):
        rows = rows_of([(0, 0), (1, -100), (2, 0)])
        self.assertEqual(line_of(rows), rows)

    def test_none_is_refused(self):
        with self.assertRaises(NoRoof):
            line_of([])

    def test_own_lists(self):
        samples.check_own(self, line_of, rows_of([(3, 0), (-2, "1/2"), (3, 1)]))
        samples.check_own(self, line_of, rows_of([(-2, "1/2"), (3, 1)]))


class Height(unittest.TestCase):
    def test_plain(self):
        line = rows_of([(-1, 0), (0, "1/2"), (2, -1)])
        self.assertEqual(line_height(line, told(-3)), (3, 1))
        self.assertEqual(line_height(line, told("-1/2")), (1, 2))
        self.assertEqual(line_height(line, told("1/3")), (1, 2))
        self.assertEqual(line_height(line, told("5/3")), (7, 3))

    def test_one_tuple(self):
        self.assertEqual(line_height([(-5, (1, 3))], (-2, 7)), told(Fraction(1, 3) + Fraction(10, 7)))

    def test_below_0(self):
        self.assertEqual(line_height(rows_of([(0, -3), (1, -2)]), (-5, 1)), (-3, 1))

    def test_against_pythons_own(self):
        for line in sample_lines():
            for t in PLACES[::5]:
                self.assertEqual(line_height(line, told(t)), told(real_height(line, t)))

    def test_own_lists(self):
        samples.check_own(self, line_height, rows_of([(-1, 0), (0, "1/2")]), (1, 2))


class Thinned(unittest.TestCase):
    def test_plain(self):
        self.assertEqual(line_thinned(rows_of([(0, 0), (1, -1), (2, 0)])), rows_of([(0, 0), (2, 0)]))
        self.assertEqual(line_thinned(rows_of([(0, 0), (1, 1), (2, 0)])), rows_of([(0, 0), (1, 1), (2, 0)]))

    def test_touching_at_one_place(self):
        self.assertEqual(line_thinned(rows_of([(0, 0), (1, 0), (2, 0)])), rows_of([(0, 0), (2, 0)]))
        self.assertEqual(line_thinned(rows_of([(-3, 1), (0, "1/2"), (1, "1/3"), (3, 0)])), rows_of([(-3, 1), (3, 0)]))

    def test_a_hair_above(self):
        line = [(-3, (0, 1)), (0, (1, NINES)), (5, (0, 1))]
        self.assertEqual(line_thinned(line), line)
        self.assertEqual(line_thinned([line[0], (0, (-1, NINES)), line[2]]), [line[0], line[2]])

    def test_several_struck_out_at_once(self):
        line = rows_of([(0, 0), (1, 5), (2, 9), (3, 12), (4, 14), (5, 100)])
        self.assertEqual(line_thinned(line), rows_of([(0, 0), (5, 100)]))

    def test_one_and_two_tuples(self):
        for line in (rows_of([(3, -1)]), rows_of([(-3, 9), (5, -100)])):
            self.assertEqual(line_thinned(line), line)

    def test_a_hundred_tuples(self):
        bowl = [(k, (-k * k, 3)) for k in range(-50, 50)]
        self.assertEqual(line_thinned(bowl), bowl)
        dome = [(k, (k * k, 3)) for k in range(-50, 50)]
        self.assertEqual(line_thinned(dome), [dome[0], dome[-1]])

    def test_by_another_way(self):
        for line in sample_lines():
            self.assertEqual(line_thinned(line), expected_thinned(line))

    def test_own_lists(self):
        samples.check_own(self, line_thinned, rows_of([(0, 0), (1, -1), (2, 0)]))
        samples.check_own(self, line_thinned, rows_of([(0, 0), (2, 0)]))


class Added(unittest.TestCase):
    def test_plain(self):
        one = rows_of([(0, 0), (1, 0)])
        other = rows_of([(-1, 1), (2, -2)])
        self.assertEqual(line_added(one, other), rows_of([(-1, 1), (0, 1), (3, -2)]))

    def test_one_tuple_each(self):
        self.assertEqual(line_added([(3, (1, 2))], [(-5, (1, 3))]), [(-2, (5, 6))])

    def test_thinned_even_if_neither_is(self):
        one = rows_of([(0, 0), (1, -9), (2, 0)])
        other = rows_of([(0, 0), (1, 0), (2, 0)])
        self.assertEqual(line_added(one, other), rows_of([(0, 0), (4, 0)]))

    def test_a_sum_of_alike_ones(self):
        line = rows_of([(0, 0), (1, 1), (3, "1/2")])
        self.assertEqual(line_added(line, line), rows_of([(0, 0), (2, 2), (6, 1)]))

    def test_a_hundred_unlike_sums(self):
        one = [(k, (-k * k, 1)) for k in range(50)]
        other = [(k, (-k * k, 2)) for k in range(51)]
        total = line_added(one, other)
        self.assertEqual(total, line_added(other, one))
        self.assertEqual([total[0], total[-1]], [(0, (0, 1)), (99, (-2401 - 1250, 1))])
        for t in range(-3, 105, 9):
            self.assertEqual(line_height(total, (t, 2)),
                             told(real_height(one, Fraction(t, 2)) + real_height(other, Fraction(t, 2))))

    def test_as_high_as_both_added_up(self):
        lines = sample_lines()
        for one, other in zip(lines, lines[1:] + lines[:1]):
            total = line_added(one, other)
            self.assertEqual(total, expected_thinned(total))
            self.assertEqual(total, line_added(other, one))
            for t in crossings(one) + crossings(other):
                self.assertEqual(real_height(total, t), real_height(one, t) + real_height(other, t))

    def test_own_lists(self):
        samples.check_own(self, line_added, rows_of([(0, 0), (1, 0)]), rows_of([(-1, 1), (2, -2)]))


class Along(unittest.TestCase):
    def test_plain(self):
        roof = read("0 0 0; 0 1 0; 1 0 -3/2")
        self.assertEqual(along(roof, at(0, -1), (1, 0)), rows_of([(0, 0), (1, "-3/2")]))
        self.assertEqual(along(roof, at(0, -1), (-2, 0)), rows_of([(-2, "-3/2"), (0, 0)]))
        self.assertEqual(along(roof, at(0, "1/2"), (1, 2)), rows_of([(0, 0), (2, "1/2")]))
        self.assertEqual(along(roof, at(0, 0), (2, 1)), rows_of([(0, 0), (1, 0), (2, "-3/2")]))

    def test_planes_that_are_alike_along_the_line(self):
        roof = read("0 0 0; 0 1 5; 0 2 -3; 1 1 1")
        self.assertEqual(along(roof, at(0, 2), (1, 0)), rows_of([(0, 7), (1, 3)]))

    def test_a_step_of_both_0(self):
        for roof in samples.sample_roofs():
            for point in (at(0, 0), at("7/3", -2)):
                self.assertEqual(along(roof, point, (0, 0)), [(0, height_at(roof, point))])

    def test_one_plane(self):
        self.assertEqual(along(read("3 5 1/2"), at(1, 2), (-4, 1)), [(-7, (27, 2))])

    def test_a_crease_is_a_bend(self):
        # The piece of (1, 0) and (3, 4) has the step (2, -1) and the weight 2.
        roof = read("1 0 0; 3 4 -2")
        self.assertEqual(along(roof, at(1, 0), (1, 0)), rows_of([(1, 1), (3, 1)]))
        self.assertEqual(along(roof, at(1, 0), (1, 3)), rows_of([(1, 1), (15, 1)]))
        self.assertEqual(along(roof, at(1, 0), (2, -1)), rows_of([(2, 1)]))

    def test_as_high_as_the_roof(self):
        steps = [(1, 0), (0, -1), (2, 3), (-1, 5), (10 ** 20, -1)]
        for roof in samples.sample_roofs()[::4]:
            for step in steps:
                self.check_along(roof, at("1/2", -3), step)

    def check_along(self, roof, point, step):
        line = along(roof, point, step)
        self.assertEqual(line, expected_thinned(line))
        for t in crossings(line):
            there = at(real(point[0]) + t * step[0], real(point[1]) + t * step[1])
            self.assertEqual(told(real_height(line, t)), height_at(roof, there))

    def test_own_lists(self):
        samples.check_own(self, along, read("0 0 0; 0 1 0; 1 0 -3/2"), at(0, 0), (2, 1))


if __name__ == "__main__":
    unittest.main()
