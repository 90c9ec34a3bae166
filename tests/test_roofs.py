import unittest
from fractions import Fraction

from creasecurve.errors import NoRoof, TooMany, TooSteep
from creasecurve.roofs import height_at, roof_of

NOUGHT = (0, 1)
LONG = 10 ** 59
ORIGIN = (NOUGHT, NOUGHT)
# Three planes with like height at (0, 3/2) and at no other point.
TENT = [(0, 0, NOUGHT), (0, 1, (-3, 2)), (1, 0, NOUGHT)]
ALL_SLOPES = [(i, j) for i in range(9) for j in range(9)]


def flat(slopes):
    return [(slope[0], slope[1], NOUGHT) for slope in slopes]


def expected_height(roof, point):
    x = Fraction(point[0][0], point[0][1])
    y = Fraction(point[1][0], point[1][1])
    height = max(i * x + j * y + Fraction(h[0], h[1]) for i, j, h in roof)
    return (height.numerator, height.denominator)


class Height(unittest.TestCase):
    def test_one_plane_alone_is_the_highest(self):
        self.assertEqual(height_at(TENT, ((-1, 2), (1, 3))), NOUGHT)
        self.assertEqual(height_at(TENT, ((7, 3), (1, 3))), (7, 3))
        self.assertEqual(height_at(TENT, ((1, 3), (5, 2))), (1, 1))

    def test_several_planes_are_the_highest(self):
        self.assertEqual(height_at(TENT, (NOUGHT, (-4, 1))), NOUGHT)
        self.assertEqual(height_at(TENT, (NOUGHT, (3, 2))), NOUGHT)
        self.assertEqual(height_at(TENT, ((2, 7), (25, 14))), (2, 7))

    def test_below_0(self):
        roof = [(1, 2, (-1, 6)), (3, 1, (-1, 2))]
        self.assertEqual(height_at(roof, ((-1, 3), (-1, 4))), (-1, 1))
        self.assertEqual(height_at(roof, ((-1, 1), (-5, 2))), (-6, 1))
        self.assertEqual(height_at(roof, (NOUGHT, NOUGHT)), (-1, 6))

    def test_one_plane(self):
        self.assertEqual(height_at([(0, 0, (-5, 3))], ((LONG, 1), (-LONG, 1))), (-5, 3))
        self.assertEqual(height_at([(2, 3, (1, 6))], ((1, 4), (1, 9))), (1, 1))

    def test_the_highest_in_each_place_of_the_list(self):
        roof = roof_of(flat(ALL_SLOPES[:16]))
        for k in range(16):
            raised = roof[:k] + [(roof[k][0], roof[k][1], (7, 5))] + roof[k + 1:]
            self.assertEqual(height_at(raised, ORIGIN), (7, 5))

    def test_many_figures(self):
        point = ((1, LONG), (-1, LONG + 1))
        self.assertEqual(height_at([(1, 1, NOUGHT)], point), (1, LONG * (LONG + 1)))
        self.assertEqual(height_at([(0, 0, NOUGHT), (1, 1, NOUGHT)], point), (1, LONG * (LONG + 1)))

    def test_against_pythons_own(self):
        roof = [(0, 0, (1, 2)), (1, 8, (-7, 3)), (3, 1, (-5, 6)), (3, 2, (-4, 1)), (8, 0, (-9, 4))]
        for top in range(-9, 10):
            for other in range(-9, 10):
                point = ((2 * top + 1, 2), (3 * other + 1, 3))
                self.assertEqual(height_at(roof, point), expected_height(roof, point))


class Making(unittest.TestCase):
    def test_planes_in_any_order(self):
        for planes in (TENT, TENT[::-1], TENT[1:] + TENT[:1]):
            self.assertEqual(roof_of(planes), TENT)

    def test_order_of_slopes(self):
        slopes = [(8, 0), (0, 8), (1, 1), (0, 0), (1, 0), (8, 8), (0, 1)]
        told = [(0, 0), (0, 1), (0, 8), (1, 0), (1, 1), (8, 0), (8, 8)]
        self.assertEqual(roof_of(flat(slopes)), flat(told))

    def test_order_is_not_by_height(self):
        planes = [(1, 0, (-9, 1)), (0, 1, (9, 1)), (0, 0, (3, 1))]
        self.assertEqual(roof_of(planes), [(0, 0, (3, 1)), (0, 1, (9, 1)), (1, 0, (-9, 1))])

    def test_of_like_slopes_the_highest_alone(self):
        planes = [(2, 1, (-1, 2)), (2, 1, (-1, 3)), (2, 1, (-2, 3)), (1, 2, (1, 2)), (1, 2, (1, 2))]
        for shown in (planes, planes[::-1], planes[2:] + planes[:2]):
            self.assertEqual(roof_of(shown), [(1, 2, (1, 2)), (2, 1, (-1, 3))])

    def test_like_slopes_a_hair_apart(self):
        low = (4, 4, (LONG, LONG + 1))
        high = (4, 4, (LONG + 1, LONG + 2))
        self.assertEqual(roof_of([low, high]), [high])
        self.assertEqual(roof_of([high, low]), [high])

    def test_swapped_slopes_are_unlike(self):
        self.assertEqual(roof_of(flat([(3, 2), (2, 3)])), flat([(2, 3), (3, 2)]))

    def test_one_plane(self):
        self.assertEqual(roof_of([(8, 0, (1, 3))]), [(8, 0, (1, 3))])

    def test_nothing_is_struck_out(self):
        planes = [(0, 0, NOUGHT), (1, 0, (-100, 1)), (2, 0, NOUGHT)]
        self.assertEqual(roof_of(planes), planes)


class Refusals(unittest.TestCase):
    def test_no_plane(self):
        with self.assertRaises(NoRoof):
            roof_of([])

    def test_slopes_up_to_the_edges_are_taken(self):
        for slope in ((0, 0), (0, 8), (8, 0), (8, 8)):
            self.assertEqual(roof_of(flat([slope])), flat([slope]))

    def test_too_steep(self):
        for wrong in (-1, 9, 10, -8, LONG, -LONG):
            for slope in ((wrong, 0), (0, wrong), (wrong, 8), (8, wrong), (wrong, wrong), (wrong, -wrong)):
                with self.subTest(slope=slope):
                    self.check_too_steep(slope)

    def check_too_steep(self, slope):
        steep = flat([slope])
        for planes in (steep, steep + TENT, TENT + steep, TENT[:1] + steep + TENT[1:]):
            with self.assertRaises(TooSteep):
                roof_of(planes)

    def test_sixteen_unlike_slopes_taken(self):
        self.assertEqual(roof_of(flat(ALL_SLOPES[16:32])), flat(ALL_SLOPES[16:32]))

    def test_seventeen_unlike_slopes_refused(self):
        for slopes in (ALL_SLOPES[:17], ALL_SLOPES[20:37][::-1], ALL_SLOPES):
            with self.assertRaises(TooMany):
                roof_of(flat(slopes))

    def test_many_planes_with_few_slopes_taken(self):
        slopes = ALL_SLOPES[5:21]
        planes = [(i, j, (k, 1)) for k in range(6) for i, j in slopes]
        self.assertEqual(len(planes), 96)
        self.assertEqual(roof_of(planes), [(i, j, (5, 1)) for i, j in slopes])
        self.assertEqual(roof_of(planes[::-1] + planes[:4]), [(i, j, (5, 1)) for i, j in slopes])

    def test_seventeen_unlike_slopes_among_like_ones_refused(self):
        with self.assertRaises(TooMany):
            roof_of(flat(ALL_SLOPES[:17] + ALL_SLOPES[:17]))

    def test_too_steep_goes_before_too_many(self):
        for slope in ((9, 0), (0, -1)):
            for planes in (flat(ALL_SLOPES[:17] + [slope]), flat([slope] + ALL_SLOPES[:17])):
                with self.assertRaises(TooSteep):
                    roof_of(planes)
        with self.assertRaises(TooSteep):
            roof_of(flat(ALL_SLOPES[:16] + [(8, 9)]))


class OwnLists(unittest.TestCase):
    def test_what_was_handed_in_is_as_it_was(self):
        planes = [(1, 0, (1, 2)), (0, 0, NOUGHT), (1, 0, (3, 4))]
        kept = list(planes)
        roof_of(planes)
        self.assertEqual(planes, kept)
        roof = roof_of(planes)
        kept = list(roof)
        height_at(roof, ((1, 3), (-1, 2)))
        self.assertEqual(roof, kept)

    def test_refused_lists_are_as_they_were(self):
        for planes in (flat(ALL_SLOPES[:17][::-1]), flat([(3, 3), (9, 0), (1, 1)])):
            kept = list(planes)
            with self.assertRaises((TooMany, TooSteep)):
                roof_of(planes)
            self.assertEqual(planes, kept)

    def test_changing_what_was_handed_in_changes_nothing_told(self):
        planes = list(TENT)
        roof = roof_of(planes)
        planes.append((5, 5, (9, 1)))
        planes[0] = (0, 0, (7, 1))
        self.assertEqual(roof, TENT)

    def test_changing_what_was_told_changes_nothing_told_later(self):
        planes = TENT[::-1]
        roof = roof_of(planes)
        roof.clear()
        self.assertEqual(roof_of(planes), TENT)

    def test_a_roof_made_of_a_roof_is_a_new_list(self):
        roof = roof_of(TENT)
        again = roof_of(roof)
        self.assertIsNot(again, roof)
        again.pop()
        self.assertEqual(roof, TENT)

    def test_numbers_told_are_whole_numbers(self):
        height = height_at(TENT, ((2, 7), (25, 14)))
        self.assertEqual([type(number) for number in height], [int, int])


if __name__ == "__main__":
    unittest.main()
