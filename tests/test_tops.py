import unittest

import samples
from creasecurve.texts import read
from creasecurve.tops import tops
from samples import at


def expected_tops(roof, point):
    heights = [samples.height_of(plane, point) for plane in roof]
    return [plane[:2] for plane, height in zip(roof, heights) if height == max(heights)]


class Tops(unittest.TestCase):
    def test_alone_on_top(self):
        roof = read("0 0 0; 0 1 0; 1 0 -3/2")
        self.assertEqual(tops(roof, at(0, -1)), [(0, 0)])
        self.assertEqual(tops(roof, at(0, 1)), [(0, 1)])
        self.assertEqual(tops(roof, at(2, "1/3")), [(1, 0)])

    def test_several_on_top(self):
        roof = read("0 0 0; 0 1 0; 1 0 -3/2")
        self.assertEqual(tops(roof, at(0, 0)), [(0, 0), (0, 1)])
        self.assertEqual(tops(roof, at("3/2", -1)), [(0, 0), (1, 0)])
        self.assertEqual(tops(roof, at("3/2", 0)), [(0, 0), (0, 1), (1, 0)])
        self.assertEqual(tops(roof, at("7/4", "1/4")), [(0, 1), (1, 0)])

    def test_planes_that_are_struck_out_are_told_too(self):
        roof = read("0 0 0; 1 0 0; 2 0 0; 1 1 -1; 2 2 -2")
        self.assertEqual(tops(roof, at(0, -5)), [(0, 0), (1, 0), (2, 0)])
        self.assertEqual(tops(roof, at(0, 1)), [(0, 0), (1, 0), (1, 1), (2, 0), (2, 2)])

    def test_one_plane(self):
        self.assertEqual(tops(read("3 8 -7/2"), at(-9, "5/3")), [(3, 8)])

    def test_sixteen_planes_at_one_point(self):
        slopes = samples.ALL_SLOPES[20:36]
        roof = [samples.plane(i, j, -2 * i - j) for i, j in slopes]
        self.assertEqual(tops(roof, at(2, 1)), slopes)

    def test_a_hair_apart(self):
        hair = samples.Fraction(1, 10 ** 30 - 1)
        roof = [samples.plane(0, 0, hair), samples.plane(1, 0, 0), samples.plane(2, 0, 0)]
        self.assertEqual(tops(roof, at(0, 0)), [(0, 0)])
        self.assertEqual(tops(roof, at(hair / 2, 7)), [(0, 0), (2, 0)])
        self.assertEqual(tops(roof, at(hair, 7)), [(2, 0)])

    def test_against_pythons_own(self):
        points = [at(x, samples.Fraction(y, 2)) for x in range(-2, 9, 2) for y in (-7, 0, 2, 9)]
        for roof in samples.sample_roofs():
            for point in points:
                self.assertEqual(tops(roof, point), expected_tops(roof, point))

    def test_own_lists(self):
        samples.check_own(self, tops, read("0 0 0; 0 1 0; 1 0 -3/2"), at(0, 0))


if __name__ == "__main__":
    unittest.main()
