import unittest
from fractions import Fraction

import samples
from creasecurve.corners import corners
from creasecurve.texts import read
from creasecurve.thinning import thinned
from samples import at, expected_corners, plane, real

HAIR = Fraction(1, 10 ** 30 - 1)


class Corners(unittest.TestCase):
    def test_three_planes(self):
        self.assertEqual(corners(read("0 0 0; 0 1 0; 1 0 -3/2")), [at("3/2", 0)])
        self.assertEqual(corners(read("1 1 0; 2 8 1/2; 7 0 -1/3")), expected_corners(read("1 1 0; 2 8 1/2; 7 0 -1/3")))

    def test_two_corners(self):
        self.assertEqual(corners(read("0 0 0; 0 1 0; 1 0 0; 1 1 -1")), [at(0, 0), at(1, 1)])
        self.assertEqual(corners(read("0 0 0; 0 1 0; 1 0 0; 1 1 1/3")), [at("-1/3", 0), at(0, "-1/3")])

    def test_order_is_by_greatness(self):
        bowl = [plane(i, j, Fraction(-i * i - j * j, 3) - Fraction(i * j, 7)) for i in range(4) for j in range(4)]
        points = [(real(x), real(y)) for x, y in corners(bowl)]
        self.assertEqual(points, sorted(points))
        self.assertEqual(len(points), 18)

    def test_like_x(self):
        roof = read("0 0 0; 1 0 0; 0 1 -1/3; 1 1 -1/3; 0 2 -3; 1 2 -3")
        self.assertEqual(corners(roof), [at(0, "1/3"), at(0, "8/3")])
        self.assertEqual(corners(read("1 2 0; 1 3 -1/2; 2 0 2/3; 3 2 0")), [at(0, "1/3"), at(0, "1/2")])

    def test_none(self):
        for text in ("3 4 1/2", "0 0 0; 5 8 -1/3", "0 0 0; 1 1 -1; 2 2 -5; 8 8 -99", "0 8 0; 4 4 1; 8 0 -2",
                     "3 0 0; 3 1 2; 3 7 1"):
            self.assertEqual(corners(read(text)), [])

    def test_more_than_three_on_top_are_one_corner(self):
        self.assertEqual(corners(read("0 0 0; 0 1 0; 1 0 0; 1 1 0")), [at(0, 0)])
        slopes = samples.ALL_SLOPES[20:36]
        self.assertEqual(corners([plane(i, j, -2 * i - j) for i, j in slopes]), [at(2, 1)])

    def test_planes_that_are_struck_out_make_none(self):
        self.assertEqual(corners(read("0 0 0; 1 0 0; 2 0 0; 2 2 -9; 1 1 -99")), [at(0, "9/2")])
        self.assertEqual(corners(read("0 0 0; 1 1 0; 2 2 0")), [])
        self.assertEqual(corners(read("0 0 0; 1 1 0; 0 3 0; 3 0 0")), [at(0, 0)])

    def test_corners_a_hair_apart(self):
        roof = [plane(0, 0, 0), plane(0, 1, 0), plane(1, 0, 0), plane(1, 1, -HAIR)]
        self.assertEqual(corners(roof), [at(0, 0), at(HAIR, HAIR)])

    def test_by_another_way(self):
        for roof in samples.sample_roofs():
            self.assertEqual(corners(roof), expected_corners(roof))

    def test_the_same_for_the_thinned_roof(self):
        for roof in samples.sample_roofs():
            self.assertEqual(corners(thinned(roof)), corners(roof))

    def test_heights_with_many_figures(self):
        for figures in (30, 60):
            roof = samples.long_roof(figures)
            self.assertEqual(corners(roof), expected_corners(roof))

    def test_own_lists(self):
        samples.check_own(self, corners, read("0 0 0; 0 1 0; 1 0 0; 1 1 -1"))


if __name__ == "__main__":
    unittest.main()
