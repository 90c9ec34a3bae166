import unittest
from fractions import Fraction

import samples
from creasecurve.bends import bends, unbent
from creasecurve.lines import line_added, line_height, line_of, line_thinned
from samples import real, rows_of, sample_lines, told

NINES = 10 ** 30 - 1


def places_of(pairs):
    return [(told(place), weight) for place, weight in pairs]


def bent_height(slope, height, rows, t):
    return slope * t + real(height) + sum(weight * max(t - real(place), 0) for place, weight in rows)


def sample_bends():
    found = [(0, told(0), []), (-5, told("7/3"), []), (2, told(-1), places_of([(0, 1)])),
             (10 ** 59, (1, 10 ** 59), [((-1, 10 ** 59), 10 ** 59), ((10 ** 59, 7), 1)])]
    for seed in range(60):
        row = samples.chances(seed)
        rows = []
        for k in range(next(row) % 12):
            place = Fraction(next(row) % 13 - 6, 1 + next(row) % 3)
            if seed % 2 == 1:
                place += Fraction(next(row) % 3, samples.long_number(row))
            rows.append((told(place), 1 + next(row) % 4))
        found.append((next(row) % 9 - 4, told(Fraction(next(row) % 30 - 15, 1 + next(row) % 4)), rows))
    return found


def around(places):
    """The places, places between two of them, and places beyond them all."""
    places = sorted(places) or [Fraction(0)]
    between = [(one + other) / 2 for one, other in zip(places, places[1:])]
    return places + between + [places[0] - 3, places[-1] + 3]


class Bends(unittest.TestCase):
    def test_plain(self):
        self.assertEqual(bends(rows_of([(0, 0), (1, 0)])), (0, (0, 1), places_of([(0, 1)])))
        self.assertEqual(bends(rows_of([(-1, 0), (0, "1/2"), (2, -1)])),
                         (-1, (0, 1), places_of([("-1/2", 1), ("3/4", 2)])))

    def test_of_a_line_that_is_not_thinned(self):
        self.assertEqual(bends(rows_of([(0, 0), (1, 0), (3, 0)])), (0, (0, 1), places_of([(0, 3)])))
        self.assertEqual(bends(rows_of([(0, 0), (1, -9), (2, "-1/2")])), (0, (0, 1), places_of([("1/4", 2)])))

    def test_one_tuple(self):
        self.assertEqual(bends([(-5, (1, 3))]), (-5, (1, 3), []))

    def test_a_hundred_tuples(self):
        line = [(k, (-k * k, 1)) for k in range(-50, 50)]
        self.assertEqual(bends(line), (-50, (-2500, 1), places_of([(2 * k + 1, 1) for k in range(-50, 49)])))

    def test_long_heights(self):
        line = [(-3, (0, 1)), (0, (1, NINES)), (5, (0, 1))]
        self.assertEqual(bends(line), (-3, (0, 1), [((-1, 3 * NINES), 3), ((1, 5 * NINES), 5)]))

    def test_what_bends_are(self):
        for line in sample_lines():
            slope, height, rows = bends(line)
            places = [real(place) for place, weight in rows]
            self.assertIs(type(bends(line)), tuple)
            self.assertIs(type(rows), list)
            self.assertEqual(places, sorted(set(places)))
            self.assertTrue(all(type(weight) is int and weight >= 1 for place, weight in rows))
            self.assertTrue(all(told(real(place)) == place for place, weight in rows))
            for t in around(places):
                self.assertEqual(told(bent_height(slope, height, rows, t)), line_height(line, told(t)))

    def test_the_same_for_the_thinned_line(self):
        for line in sample_lines():
            self.assertEqual(bends(line_thinned(line)), bends(line))

    def test_own_lists(self):
        samples.check_own(self, bends, rows_of([(-1, 0), (0, "1/2"), (2, -1)]))
        samples.check_own(self, bends, [(-5, (1, 3))])


class Unbent(unittest.TestCase):
    def test_plain(self):
        self.assertEqual(unbent(0, (0, 1), places_of([(0, 1)])), rows_of([(0, 0), (1, 0)]))
        self.assertEqual(unbent(-1, (0, 1), places_of([("-1/2", 1), ("3/4", 2)])),
                         rows_of([(-1, 0), (0, "1/2"), (2, -1)]))

    def test_no_rows(self):
        self.assertEqual(unbent(-5, (1, 3), []), [(-5, (1, 3))])

    def test_any_order(self):
        line = rows_of([(-1, 0), (0, "1/2"), (2, -1), (5, -10)])
        rows = places_of([("-1/2", 1), ("3/4", 2), (3, 3)])
        for shown in (rows, rows[::-1], rows[1:] + rows[:1], rows[2:] + rows[:2]):
            self.assertEqual(unbent(-1, (0, 1), shown), line)

    def test_order_is_by_greatness(self):
        self.assertEqual(unbent(0, (0, 1), places_of([("1/2", 1), ("1/3", 1), (-5, 1), ("-11/2", 1)])),
                         rows_of([(0, 0), (1, "11/2"), (2, "21/2"), (3, "61/6"), (4, "29/3")]))

    def test_like_places(self):
        rows = places_of([(2, 3), ("1/2", 1), (2, 4), ("1/2", 5), (2, 1)])
        self.assertEqual(unbent(1, (1, 1), rows), rows_of([(1, 1), (7, -2), (15, -18)]))
        self.assertEqual(unbent(0, (0, 1), [((1, 3), 1)] * 99), [(0, (0, 1)), (99, (-33, 1))])

    def test_ninety_nine_places(self):
        line = [(k, (-k * k, 1)) for k in range(-50, 50)]
        rows = places_of([(2 * k + 1, 1) for k in range(-50, 49)])
        self.assertEqual(unbent(-50, (-2500, 1), rows[50:] + rows[:50]), line)

    def test_a_sum_of_single_bends(self):
        for slope, height, rows in sample_bends():
            line = [(slope, height)]
            for place, weight in rows:
                line = line_added(line, line_of([(0, (0, 1)), (weight, told(-weight * real(place)))]))
            self.assertEqual(unbent(slope, height, rows), line)

    def test_what_unbent_is(self):
        for slope, height, rows in sample_bends():
            line = unbent(slope, height, rows)
            self.assertEqual(line_thinned(line), line)
            self.assertEqual([row[0] for row in line], sorted({row[0] for row in line}))
            for t in around({real(place) for place, weight in rows}):
                self.assertEqual(line_height(line, told(t)), told(bent_height(slope, height, rows, t)))

    def test_own_lists(self):
        samples.check_own(self, unbent, 1, (1, 1), places_of([(2, 3), ("1/2", 1), (2, 4)]))
        samples.check_own(self, unbent, 1, (1, 1), [])


class ThereAndBack(unittest.TestCase):
    def test_unbent_of_bends_is_the_thinned_line(self):
        for line in sample_lines():
            slope, height, rows = bends(line)
            self.assertEqual(unbent(slope, height, rows), line_thinned(line))

    def test_bends_of_unbent_are_the_bends_in_order(self):
        for slope, height, rows in sample_bends():
            weights = {}
            for place, weight in rows:
                weights[real(place)] = weights.get(real(place), 0) + weight
            expected = [(told(place), weights[place]) for place in sorted(weights)]
            self.assertEqual(bends(unbent(slope, height, rows)), (slope, height, expected))


if __name__ == "__main__":
    unittest.main()
