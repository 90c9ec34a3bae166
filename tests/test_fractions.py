import math
import unittest
from fractions import Fraction

from creasecurve.errors import NoFraction
from creasecurve.fractions import fraction, less, minus, over, plus, times

LONG = 10 ** 59 + 7
LONGER = 10 ** 1999 + 9
NOUGHT = (0, 1)
SOME = [(top, bottom) for bottom in range(1, 7) for top in range(-8, 9) if math.gcd(top, bottom) == 1]
FAR = [(LONG, 1), (-LONG, LONG + 1), (1, LONGER), (-LONGER, 3), (LONGER + 1, LONGER)]


def told(value):
    return (value.numerator, value.denominator)


class Checks(unittest.TestCase):
    def check_fraction(self, value):
        self.assertIs(type(value), tuple)
        self.assertEqual([type(number) for number in value], [int, int])
        self.assertGreaterEqual(value[1], 1)
        self.assertEqual(math.gcd(value[0], value[1]), 1)


class Making(Checks):
    def test_lowest_terms(self):
        self.assertEqual(fraction(6, 4), (3, 2))
        self.assertEqual(fraction(3, 2), (3, 2))
        self.assertEqual(fraction(4, 2), (2, 1))
        self.assertEqual(fraction(-6, 4), (-3, 2))
        self.assertEqual(fraction(-1, 3), (-1, 3))
        self.assertEqual(fraction(5, 1), (5, 1))

    def test_bottom_below_0(self):
        self.assertEqual(fraction(6, -4), (-3, 2))
        self.assertEqual(fraction(-6, -4), (3, 2))
        self.assertEqual(fraction(1, -1), (-1, 1))
        self.assertEqual(fraction(-7, -7), (1, 1))

    def test_nought(self):
        for bottom in (1, 2, 9, -1, -5, LONG, -LONGER):
            self.assertEqual(fraction(0, bottom), NOUGHT)
            self.check_fraction(fraction(0, bottom))

    def test_many_figures(self):
        self.assertEqual(fraction(LONG * 6, LONG * -4), (-3, 2))
        self.assertEqual(fraction(LONG, LONG + 1), (LONG, LONG + 1))
        self.assertEqual(fraction(LONGER * 10, LONGER * 15), (2, 3))
        self.assertEqual(fraction(-LONGER, 1), (-LONGER, 1))

    def test_against_pythons_own(self):
        for top in range(-30, 31):
            for bottom in list(range(-30, 0)) + list(range(1, 31)):
                value = fraction(top, bottom)
                self.assertEqual(value, told(Fraction(top, bottom)))
                self.check_fraction(value)

    def test_bottom_0_refused(self):
        for top in (0, 1, -1, LONG):
            with self.assertRaises(NoFraction):
                fraction(top, 0)


class Reckoning(Checks):
    def test_plain_ones(self):
        self.assertEqual(plus((1, 6), (1, 3)), (1, 2))
        self.assertEqual(plus((1, 2), (-1, 2)), NOUGHT)
        self.assertEqual(minus((1, 6), (2, 3)), (-1, 2))
        self.assertEqual(minus((5, 7), (5, 7)), NOUGHT)
        self.assertEqual(times((2, 3), (-3, 2)), (-1, 1))
        self.assertEqual(times((5, 3), NOUGHT), NOUGHT)
        self.assertEqual(over((1, 2), (-3, 4)), (-2, 3))
        self.assertEqual(over((-1, 2), (-1, 2)), (1, 1))
        self.assertEqual(over(NOUGHT, (-3, 4)), NOUGHT)

    def test_against_pythons_own(self):
        for a in SOME + FAR:
            for b in SOME + FAR:
                self.check_pair(a, b)

    def check_pair(self, a, b):
        one = Fraction(a[0], a[1])
        other = Fraction(b[0], b[1])
        results = [(plus(a, b), one + other), (minus(a, b), one - other), (times(a, b), one * other)]
        if other != 0:
            results.append((over(a, b), one / other))
        for value, expected in results:
            self.assertEqual(value, told(expected))
            self.check_fraction(value)

    def test_quotient_by_nought_refused(self):
        for a in SOME + FAR:
            with self.assertRaises(NoFraction):
                over(a, NOUGHT)


class Order(Checks):
    def test_unlike_ones(self):
        self.assertIs(less((1, 3), (1, 2)), True)
        self.assertIs(less((1, 2), (1, 3)), False)
        self.assertIs(less((-1, 2), (-1, 3)), True)
        self.assertIs(less((-1, 3), (-1, 2)), False)
        self.assertIs(less((-1, 9), NOUGHT), True)
        self.assertIs(less(NOUGHT, (-1, 9)), False)

    def test_like_ones(self):
        for a in SOME + FAR:
            self.assertIs(less(a, a), False)
            self.assertIs(less(a, (a[0], a[1])), False)

    def test_a_hair_apart(self):
        self.assertIs(less((LONGER, LONGER + 1), (LONGER + 1, LONGER + 2)), True)
        self.assertIs(less((LONGER + 1, LONGER + 2), (LONGER, LONGER + 1)), False)

    def test_against_pythons_own(self):
        for a in SOME + FAR:
            for b in SOME + FAR:
                self.assertIs(less(a, b), Fraction(a[0], a[1]) < Fraction(b[0], b[1]))


if __name__ == "__main__":
    unittest.main()
