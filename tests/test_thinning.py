import itertools
import unittest
from fractions import Fraction

import samples
from creasecurve.texts import read
from creasecurve.thinning import staying, struck, thinned
from samples import at, plane, real, told

HAIR = Fraction(1, 10 ** 30 - 1)


def cross(a, b):
    return a[0] * b[1] - a[1] * b[0]


def mixed_height(middle, group):
    """The height of the mixture of two or three planes with the middle one's slope, or None."""
    seen = [(one[0] - middle[0], one[1] - middle[1]) for one in group]
    if len(group) == 2:
        if cross(seen[0], seen[1]) != 0 or max(seen) <= (0, 0) or min(seen) >= (0, 0):
            return None
        sizes = [abs(a) + abs(b) for a, b in seen]
        weights = [sizes[1], sizes[0]]
    else:
        weights = [cross(seen[1], seen[2]), cross(seen[2], seen[0]), cross(seen[0], seen[1])]
        if min(weights) < 0 < max(weights) or sum(weights) == 0:
            return None
    return sum(weight * real(one[2]) for weight, one in zip(weights, group)) / sum(weights)


def is_struck(middle, roof):
    """By its own way: whether any two or three of all the other planes, struck out or not, mix to no less."""
    others = [one for one in roof if one != middle]
    for group in itertools.chain(itertools.combinations(others, 2), itertools.combinations(others, 3)):
        height = mixed_height(middle, group)
        if height is not None and height >= real(middle[2]):
            return True
    return False


class Checks(unittest.TestCase):
    def check_fraction(self, value):
        self.assertIs(type(value), tuple)
        self.assertEqual([type(number) for number in value], [int, int])
        self.assertEqual(told(real(value)), value)

    def check_roof(self, roof):
        stay = staying(roof)
        out = struck(roof)
        self.assertIs(type(stay), list)
        self.assertIs(type(out), list)
        self.assertEqual(thinned(roof), [one for one, point in stay])
        self.assertEqual([one for one in roof if one not in thinned(roof)], [one for one, mixture in out])
        self.assertEqual([one for one in roof if one in thinned(roof)], thinned(roof))
        for one, point in stay:
            self.check_lone(roof, one, point)
        for one, mixture in out:
            self.check_mixture(thinned(roof), one, mixture)

    def check_lone(self, roof, one, point):
        self.assertIs(type(point), tuple)
        self.assertEqual(len(point), 2)
        self.check_fraction(point[0])
        self.check_fraction(point[1])
        own = samples.height_of(one, point)
        for other in roof:
            if other != one:
                self.assertLess(samples.height_of(other, point), own)

    def check_mixture(self, stay, one, mixture):
        self.assertIs(type(mixture), list)
        self.assertIn(len(mixture), (1, 2, 3))
        parts = [part for share, part in mixture]
        self.assertEqual([part for part in stay if part in parts], parts)
        for share, part in mixture:
            self.check_fraction(share)
            self.assertGreater(real(share), 0)
        self.assertEqual(sum(real(share) for share, part in mixture), 1)
        self.assertEqual(sum(real(share) * part[0] for share, part in mixture), one[0])
        self.assertEqual(sum(real(share) * part[1] for share, part in mixture), one[1])
        self.assertGreaterEqual(sum(real(share) * real(part[2]) for share, part in mixture), real(one[2]))


class Plain(Checks):
    def check_stay(self, text, slopes):
        roof = read(text)
        self.assertEqual([one[:2] for one in thinned(roof)], slopes)
        self.check_roof(roof)

    def test_all_stay(self):
        self.check_stay("0 0 0; 0 1 0; 1 0 -3/2", [(0, 0), (0, 1), (1, 0)])
        self.check_stay("0 0 0; 1 0 1/9; 2 0 0", [(0, 0), (1, 0), (2, 0)])

    def test_one_plane(self):
        self.check_stay("4 4 -9", [(4, 4)])
        self.assertEqual(struck(read("4 4 -9")), [])

    def test_two_planes(self):
        self.check_stay("4 4 -9; 4 5 1000", [(4, 4), (4, 5)])

    def test_deep_below_two(self):
        self.check_stay("0 0 0; 1 0 -100; 2 0 0", [(0, 0), (2, 0)])

    def test_touching_along_a_line(self):
        self.check_stay("0 0 0; 1 0 0; 2 0 0", [(0, 0), (2, 0)])
        self.check_stay("0 0 0; 2 2 0; 3 3 0", [(0, 0), (3, 3)])
        self.check_stay("0 3 3; 1 2 2; 3 0 0", [(0, 3), (3, 0)])
        self.assertEqual(struck(read("0 0 0; 2 2 0; 3 3 0")),
                         [(plane(2, 2, 0), [((1, 3), plane(0, 0, 0)), ((2, 3), plane(3, 3, 0))])])

    def test_touching_at_a_point(self):
        self.check_stay("0 0 0; 0 3 0; 1 1 0; 3 0 0", [(0, 0), (0, 3), (3, 0)])
        self.check_stay("0 0 0; 0 2 0; 1 1 0; 2 0 0; 2 2 0", [(0, 0), (0, 2), (2, 0), (2, 2)])
        thirds = [((1, 3), plane(0, 0, 0)), ((1, 3), plane(0, 3, 0)), ((1, 3), plane(3, 0, 0))]
        self.assertEqual(struck(read("0 0 0; 0 3 0; 1 1 0; 3 0 0")), [(plane(1, 1, 0), thirds)])

    def test_a_hair_above_a_touch(self):
        for slopes in ([(0, 0), (1, 1), (0, 3), (3, 0)], [(0, 0), (1, 0), (2, 0)], [(5, 5), (6, 7), (7, 8), (8, 8)]):
            middle = slopes[1]
            roof = sorted(plane(i, j, HAIR if (i, j) == middle else 0) for i, j in slopes)
            self.check_roof(roof)
            self.assertIn(middle, [one[:2] for one in thinned(roof)])

    def test_a_hair_below_a_touch(self):
        roof = [plane(0, 0, 0), plane(0, 3, 0), plane(1, 1, -HAIR), plane(3, 0, 0)]
        self.check_roof(roof)
        self.assertEqual(thinned(roof), [roof[0], roof[1], roof[3]])

    def test_struck_planes_are_in_no_mixture(self):
        self.check_stay("0 0 0; 1 0 -1; 2 0 -1; 3 0 -1; 4 0 0", [(0, 0), (4, 0)])
        self.check_stay("0 0 0; 1 1 -2; 2 2 -3; 3 2 -3; 0 8 0; 8 0 0", [(0, 0), (0, 8), (8, 0)])

    def test_slopes_on_one_line(self):
        self.check_stay("0 8 0; 1 7 -1; 2 6 3; 4 4 2; 5 3 2; 8 0 0", [(0, 8), (2, 6), (5, 3), (8, 0)])
        self.check_stay("3 0 0; 3 1 0; 3 4 0; 3 8 -8", [(3, 0), (3, 4), (3, 8)])

    def test_sixteen_planes(self):
        corner_slopes = [(0, 0), (0, 8), (8, 0), (8, 8)]
        inner = [plane(i, j, -1) for i in (1, 3, 4, 7) for j in (2, 4, 6)]
        roof = sorted([plane(i, j, 0) for i, j in corner_slopes] + inner)
        self.assertEqual(len(roof), 16)
        self.check_roof(roof)
        self.assertEqual([one[:2] for one in thinned(roof)], corner_slopes)
        bowl = [plane(i, j, -i * i - j * j) for i in range(2, 6) for j in range(4, 8)]
        self.assertEqual(thinned(bowl), bowl)
        self.assertEqual(struck(bowl), [])
        self.check_roof(bowl)


class Wholly(Checks):
    def test_points_and_mixtures_of_many_roofs(self):
        for roof in samples.sample_roofs():
            self.check_roof(roof)

    def test_which_planes_stay_by_another_way(self):
        for roof in samples.sample_roofs():
            self.assertEqual(thinned(roof), [one for one in roof if not is_struck(one, roof)])

    def test_thinned_roofs_are_as_high(self):
        points = [at(Fraction(x, 3), Fraction(y, 2)) for x in range(-8, 30, 5) for y in range(-9, 20, 4)]
        for roof in samples.sample_roofs():
            thin = thinned(roof)
            for point in points:
                self.assertEqual(max(samples.height_of(one, point) for one in thin),
                                 max(samples.height_of(one, point) for one in roof))

    def test_thinned_twice_is_the_same(self):
        for roof in samples.sample_roofs():
            self.assertEqual(thinned(thinned(roof)), thinned(roof))
            self.assertEqual(struck(thinned(roof)), [])

    def test_roofs_as_high_as_one_another(self):
        one = read("0 0 0; 1 1 0; 2 2 0; 3 0 1")
        other = read("0 0 0; 2 2 0; 3 0 1; 2 1 -5; 1 0 0")
        self.assertEqual(thinned(one), thinned(other))
        self.assertNotEqual(thinned(one), thinned(read("0 0 0; 2 2 0; 3 0 1; 2 1 1")))
        self.assertNotEqual(thinned(one), thinned(read("0 0 0; 2 2 0; 3 0 2")))

    def test_heights_with_many_figures(self):
        for figures in (30, 60):
            roof = samples.long_roof(figures)
            self.check_roof(roof)
            self.check_roof([plane(i, j, -real(height)) for i, j, height in roof])

    def test_somewhat_beyond_the_bounds(self):
        roof = [plane(i, j, -abs(i) - j * j) for i in range(-2, 4) for j in range(7, 10)]
        self.check_roof(roof)
        self.assertEqual(thinned(roof), [one for one in roof if one[0] in (-2, 0, 3)])

    def test_own_lists(self):
        roof = read("0 0 0; 0 3 0; 1 1 0; 3 0 0; 2 1 -1")
        for function in (thinned, staying, struck):
            samples.check_own(self, function, list(roof))
        self.assertIsNot(thinned(thinned(roof)), thinned(roof))


if __name__ == "__main__":
    unittest.main()
