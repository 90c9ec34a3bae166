import unittest

import samples
from creasecurve.hulls import area, hull
from samples import BIG, tuple_lists, turn


class Hull(unittest.TestCase):
    def test_square(self):
        square = [(0, 0), (2, 0), (2, 2), (0, 2)]
        self.assertEqual(hull([(2, 2), (1, 1), (0, 2), (0, 0), (2, 0)]), square)
        self.assertEqual(hull([(i, j) for i in range(3) for j in range(3)]), square)

    def test_triangles_both_ways_round(self):
        for slopes in ([(0, 0), (1, 0), (0, 1)], [(0, 1), (1, 0), (0, 0)], [(1, 0), (0, 0), (0, 1)]):
            self.assertEqual(hull(slopes), [(0, 0), (1, 0), (0, 1)])

    def test_begins_with_the_least(self):
        self.assertEqual(hull([(5, 0), (3, 9), (1, 4), (1, 6), (9, 9)]), [(1, 4), (5, 0), (9, 9), (3, 9), (1, 6)])

    def test_numbers_below_0(self):
        self.assertEqual(hull([(3, 0), (-3, 0), (0, 3), (0, -3), (-1, -1), (0, 0)]), [(-3, 0), (0, -3), (3, 0), (0, 3)])

    def test_one_tuple_and_alike_ones(self):
        for slope in ((0, 0), (-4, 7), (BIG, -BIG)):
            self.assertEqual(hull([slope]), [slope])
            self.assertEqual(hull([slope] * 3), [slope])
            self.assertEqual(hull([slope] * 100), [slope])

    def test_two_tuples(self):
        self.assertEqual(hull([(3, 1), (0, 5)]), [(0, 5), (3, 1)])
        self.assertEqual(hull([(3, 1), (3, -5), (3, 1)]), [(3, -5), (3, 1)])

    def test_on_one_line(self):
        for a, b in ((1, 0), (0, 1), (1, 1), (1, -1), (2, 3), (-3, 1), (BIG, BIG - 1)):
            slopes = [(7 + a * k, -2 + b * k) for k in (3, -4, 0, 9, 9, -4, 2)]
            self.assertEqual(hull(slopes), [min(slopes), max(slopes)])

    def test_alike_tuples_come_once(self):
        self.assertEqual(hull([(0, 0), (4, 0), (0, 4)] * 5 + [(2, 2), (1, 1)] * 3), [(0, 0), (4, 0), (0, 4)])

    def test_a_hair_off_a_side(self):
        slopes = [(0, 0), (BIG, 1), (2 * BIG, 1), (BIG, BIG)]
        self.assertEqual(hull(slopes), [(0, 0), (2 * BIG, 1), (BIG, BIG)])
        self.assertEqual(hull(slopes + [(BIG, 0)]), [(0, 0), (BIG, 0), (2 * BIG, 1), (BIG, BIG)])

    def test_a_hundred_tuples(self):
        curve = [(k, k * k) for k in range(-50, 50)]
        self.assertEqual(hull(curve[::-1]), curve)
        grid = [(i, j) for i in range(10) for j in range(10)]
        self.assertEqual(hull(grid), [(0, 0), (9, 0), (9, 9), (0, 9)])

    def test_what_a_hull_is(self):
        for slopes in tuple_lists():
            around = hull(slopes)
            self.assertIs(type(around), list)
            self.assertEqual(around[0], min(slopes))
            self.assertEqual(len(set(around)), len(around))
            self.assertLessEqual(set(around), set(slopes))
            if len(around) < 3:
                self.assertEqual(around, sorted({min(slopes), max(slopes)}))
                self.assertTrue(all(turn(around[0], around[-1], slope) == 0 for slope in slopes))
            else:
                self.check_round(around, slopes)

    def check_round(self, around, slopes):
        for k in range(len(around)):
            self.assertGreater(turn(around[k - 2], around[k - 1], around[k]), 0)
            self.assertTrue(all(turn(around[k - 1], around[k], slope) >= 0 for slope in slopes))

    def test_own_lists(self):
        for slopes in ([(1, 1)], [(1, 1), (0, 0)], [(2, 2), (1, 1), (0, 2), (0, 0), (2, 0)], [(0, 0), (1, 0), (0, 1)]):
            samples.check_own(self, hull, slopes)


class Area(unittest.TestCase):
    def test_plain(self):
        self.assertEqual(area([(0, 0), (1, 0), (0, 1)]), 1)
        self.assertEqual(area([(0, 1), (1, 0), (0, 0)]), 1)
        self.assertEqual(area([(0, 0), (2, 0), (2, 2), (0, 2), (1, 1)]), 8)
        self.assertEqual(area([(-3, 0), (3, 0), (0, 3), (0, -3)]), 36)
        self.assertEqual(area([(1, 1), (4, 2), (2, 5)]), 11)

    def test_nought(self):
        on_a_line = [(k, 2 * k - 1) for k in range(-9, 9)]
        for slopes in ([(3, 4)], [(3, 4)] * 7, [(0, 5), (3, 1)], on_a_line, [(2, 5), (2, 1), (2, 9)]):
            self.assertEqual(area(slopes), 0)

    def test_many_figures(self):
        self.assertEqual(area([(-BIG, -BIG), (BIG, -BIG), (BIG, BIG), (-BIG, BIG)]), 8 * BIG * BIG)
        self.assertEqual(area([(0, 0), (BIG, BIG - 1), (BIG + 1, BIG)]), 1)

    def test_cut_into_triangles(self):
        for slopes in tuple_lists():
            around = hull(slopes)
            triangles = [turn(around[0], around[k - 1], around[k]) for k in range(2, len(around))]
            self.assertEqual(area(slopes), sum(triangles))
            self.assertIs(type(area(slopes)), int)

    def test_the_same_wherever_it_lies(self):
        for slopes in tuple_lists():
            self.assertEqual(area([(i + 77, j - BIG) for i, j in slopes]), area(slopes))
            self.assertEqual(area([(-j, i) for i, j in slopes]), area(slopes))
            self.assertEqual(area([(j, i) for i, j in slopes]), area(slopes))

    def test_own_lists(self):
        samples.check_own(self, area, [(2, 2), (1, 1), (0, 2), (0, 0), (2, 0)])


if __name__ == "__main__":
    unittest.main()
