import itertools
import unittest
from fractions import Fraction

import samples
from creasecurve.corners import corners
from creasecurve.drawing import drawn
from creasecurve.sums import moved, raised
from creasecurve.texts import read
from creasecurve.thinning import thinned
from samples import at, plane, real, shift, told, turn

TWO_CORNERS = "0 0 0; 0 1 0; 1 0 0; 1 1 -1"
BOWL = [plane(i, j, -i * i - j * j) for i in range(2, 6) for j in range(3, 7)]


def expected_sign(stay, point):
    heights = [samples.height_of(one, point) for one in stay]
    here = [k for k, height in enumerate(heights) if height == max(heights)]
    if any(turn(*[stay[k] for k in group]) != 0 for group in itertools.combinations(here, 3)):
        return "+"
    return "." if len(here) > 1 else "abcdefghijklmnopqrstuvwxyz"[here[0]]


def expected_drawing(roof, point, step, wide, tall):
    stay = thinned(roof)
    x, y = real(point[0]), real(point[1])
    return ["".join(expected_sign(stay, at(x + k * real(step), y + (tall - 1 - r) * real(step))) for k in range(wide))
            for r in range(tall)]


class Drawn(unittest.TestCase):
    def test_two_corners(self):
        self.assertEqual(drawn(read(TWO_CORNERS), at(-1, -1), (1, 2), 7, 6), [
            "bbbb.dd",
            "bbbb+..",
            "bbb.ccc",
            "..+cccc",
            "aa.cccc",
            "aa.cccc"])

    def test_the_point_is_low_on_the_left(self):
        self.assertEqual(drawn(read("0 0 0; 0 1 -2; 1 0 -2"), at(0, 0), (1, 1), 4, 5),
                         ["bbbb", "bbb.", "..+c", "aa.c", "aa.c"])

    def test_one_by_one(self):
        roof = read(TWO_CORNERS)
        for point, sign in ((at(0, 0), "+"), (at("1/2", "1/2"), "."), (at(-1, -1), "a"), (at(0, 1), "b"),
                            (at(1, 0), "c"), (at(2, 2), "d")):
            self.assertEqual(drawn(roof, point, (1, 1), 1, 1), [sign])
            self.assertEqual(drawn(roof, point, (7, 3), 1, 1), [sign])

    def test_forty_by_one_and_one_by_forty(self):
        roof = read(TWO_CORNERS)
        self.assertEqual(drawn(roof, at(-3, 0), (1, 5), 40, 1), ["." * 15 + "+" + "c" * 24])
        self.assertEqual(drawn(roof, at(0, -3), (1, 5), 1, 40), ["b"] * 24 + ["+"] + ["."] * 15)

    def test_forty_by_forty(self):
        rows = drawn(BOWL, at(4, 6), (1, 5), 40, 40)
        self.assertEqual(rows, expected_drawing(BOWL, at(4, 6), (1, 5), 40, 40))
        self.assertEqual(sorted(set("".join(rows))), sorted("abcdefghijklmnop.+"))
        self.assertEqual("".join(rows).count("+"), 9)

    def test_one_plane(self):
        self.assertEqual(drawn(read("3 4 1/2"), at("1/3", -7), (2, 3), 3, 2), ["aaa", "aaa"])

    def test_slopes_on_one_line_have_no_corner(self):
        self.assertEqual(drawn(read("0 0 0; 1 0 0; 2 0 -1"), at(-1, 0), (1, 1), 4, 2), ["a..c", "a..c"])
        self.assertEqual(drawn(read("0 0 0; 1 1 0; 2 2 0"), at(-1, -1), (1, 1), 3, 3), [".bb", "a.b", "aa."])

    def test_letters_are_those_of_planes_that_stay(self):
        self.assertEqual(drawn(read("0 0 0; 1 0 -9; 2 0 0"), at(-1, 0), (1, 1), 3, 1), ["a.b"])
        roof = read("0 0 0; 0 3 0; 1 0 -99; 1 1 0; 3 0 0")
        self.assertEqual(drawn(roof, at(-1, -1), (1, 1), 3, 3), ["bb.", ".+c", "a.c"])

    def test_struck_out_planes_have_no_letter(self):
        roof = read("0 0 0; 1 1 0; 3 3 0; 0 3 -9")
        self.assertEqual(drawn(roof, at(-2, -2), (1, 1), 4, 4), expected_drawing(roof, at(-2, -2), (1, 1), 4, 4))
        self.assertNotIn("d", "".join(drawn(roof, at(-9, -9), (1, 1), 19, 19)))

    def test_four_on_top(self):
        self.assertEqual(drawn(read("0 0 0; 0 1 0; 1 0 0; 1 1 0"), at(-1, -1), (1, 1), 3, 3), ["b.d", ".+.", "a.c"])

    def test_a_hair_off(self):
        hair = Fraction(1, 10 ** 30 - 1)
        roof = read(TWO_CORNERS)
        self.assertEqual(drawn(roof, at(-hair, -hair), told(hair), 3, 3), ["bb.", ".+c", "a.c"])
        self.assertEqual(drawn(roof, at(1 - hair, 1 - hair), told(hair), 3, 3), ["b.d", "b+.", ".cc"])

    def test_by_another_way(self):
        for k, roof in enumerate(samples.sample_roofs()):
            point = corners(roof)[0] if k % 2 and corners(roof) else at("-5/3", -2)
            step = [(1, 1), (1, 2), (5, 3), (7, 1)][k % 4]
            wide, tall = 1 + k % 7, 1 + k % 5
            start = shift(point, (told(-real(step) * (wide // 2)), told(-real(step) * (tall // 2))))
            self.assertEqual(drawn(roof, start, step, wide, tall), expected_drawing(roof, start, step, wide, tall))

    def test_moved_and_raised(self):
        step = at("7/3", "-1/9")
        for roof in samples.sample_roofs()[::5]:
            there = raised(moved(roof, step), (5, 6))
            self.assertEqual(drawn(there, shift(at(-4, -4), step), (3, 2), 8, 6), drawn(roof, at(-4, -4), (3, 2), 8, 6))

    def test_many_figures(self):
        nines = 10 ** 60 - 1
        roof = samples.long_roof(60)
        for point in corners(roof)[:3]:
            rows = drawn(roof, shift(point, at(0, Fraction(-nines, nines - 1))), (nines, nines - 1), 2, 3)
            self.assertEqual(rows[1][0], "+")
            self.assertEqual([len(row) for row in rows], [2, 2, 2])

    def test_somewhat_beyond_the_bounds(self):
        rows = drawn(read(TWO_CORNERS), at(-30, -30), (1, 1), 45, 41)
        self.assertEqual([len(row) for row in rows], [45] * 41)

    def test_kinds(self):
        rows = drawn(read(TWO_CORNERS), at(0, 0), (1, 1), 3, 2)
        self.assertIs(type(rows), list)
        self.assertEqual([type(row) for row in rows], [str, str])

    def test_own_lists(self):
        samples.check_own(self, drawn, read(TWO_CORNERS), at(-1, -1), (1, 2), 7, 6)


if __name__ == "__main__":
    unittest.main()
