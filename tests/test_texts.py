import math
import unittest

import samples
from creasecurve.errors import NoNumber, NoText, RoofError, TooMany
from creasecurve.roofs import roof_of
from creasecurve.texts import number_of, number_text, read, written

NINES = "9" * 30
TEN = "1" + "0" * 29
NO_TEXTS = [None, True, False, 0, 1, -5, 1.5, 2j, b"1", b"0 0 0", [], ["0 0 0"], ("0 0 0",), (1, 2), {}, {"1": 1},
            set(), object(), str, bytearray(b"1")]
NO_NUMBERS = ["", " ", "-", "/", "-/", "/2", "-/2", "1/", "-1/", "--1", "-+1", "+1", "1-", " 1", "1 ", "1 /2", "1/ 2",
              "- 1", "1\n", "\n1", "1\n/2", "1/2\n", "1_0", "1,5", "1.5", "1.", ".5", "1e3", "0x1", "a", "one", "1a",
              "00", "01", "-01", "007", "-0", "-00", "0/1", "0/2", "-0/2", "0/0", "1/0", "1/1", "-1/1", "5/1", "1/00",
              "1/02", "01/2", "1/-2", "-1/-2", "1/+2", "2/4", "-2/4", "6/3", "3/3", "15/35", "1/2/3", "1//2", "1\\2",
              "\u0661", "1/\u0662", "\u00b2", "\uff11", "\u2212" + "1", "\u00bd"]


def flat_text(slopes):
    return "; ".join(f"{i} {j} 0" for i, j in slopes)


class ReadNumbers(unittest.TestCase):
    def test_ordinary_ones(self):
        pairs = [("0", (0, 1)), ("1", (1, 1)), ("-1", (-1, 1)), ("10", (10, 1)), ("-120", (-120, 1)), ("3/2", (3, 2)),
                 ("-3/2", (-3, 2)), ("1/2", (1, 2)), ("1/10", (1, 10)), ("-10/7", (-10, 7)), ("1/12", (1, 12)),
                 ("100/3", (100, 3))]
        for word, number in pairs:
            with self.subTest(word):
                self.assertEqual(number_of(word), number)

    def test_kind(self):
        for word in ("0", "-7", "-7/3"):
            number = number_of(word)
            self.assertIs(type(number), tuple)
            self.assertEqual([type(part) for part in number], [int, int])

    def test_thirty_figures(self):
        pairs = [(NINES, (10 ** 30 - 1, 1)), ("-" + NINES, (1 - 10 ** 30, 1)), ("1/" + NINES, (1, 10 ** 30 - 1)),
                 ("-1/" + NINES, (-1, 10 ** 30 - 1)), (NINES + "/2", (10 ** 30 - 1, 2)),
                 ("-" + NINES + "/" + TEN, (1 - 10 ** 30, 10 ** 29))]
        for word, number in pairs:
            with self.subTest(word):
                self.assertEqual(number_of(word), number)

    def test_thirty_one_figures(self):
        more = TEN + "0"
        for word in (more, "-" + more, more + "/3", "-" + more + "/3", "1/" + more, "-1/" + more, "3/" + more,
                     NINES + "/" + more, more + "/" + NINES, "9" * 31, "0" * 31, "1" * 3000, "1/" + "7" * 2998,
                     "1" * 5000, "-" + "1" * 5000 + "/7"):
            with self.subTest(word):
                self.check_refused(word)

    def test_lowest_terms_of_long_ones(self):
        self.assertEqual(number_of(NINES + "/" + TEN), (10 ** 30 - 1, 10 ** 29))
        self.check_refused(NINES + "/" + "3" * 30)
        self.check_refused("-" + NINES + "/" + NINES)

    def test_wrong_words(self):
        for word in NO_NUMBERS:
            with self.subTest(word):
                self.check_refused(word)

    def test_no_texts(self):
        for thing in NO_TEXTS:
            with self.subTest(thing):
                self.check_refused(thing)

    def check_refused(self, thing):
        with self.assertRaises(RoofError) as taken:
            number_of(thing)
        self.assertIs(type(taken.exception), NoNumber)

    def test_each_small_pair_of_numbers(self):
        for top in range(-12, 13):
            for bottom in range(0, 13):
                word = f"{top}/{bottom}"
                if bottom > 1 and math.gcd(top, bottom) == 1:
                    self.assertEqual(number_of(word), (top, bottom))
                else:
                    self.check_refused(word)


class WrittenNumbers(unittest.TestCase):
    def test_ordinary_ones(self):
        self.assertEqual(number_text((0, 1)), "0")
        self.assertEqual(number_text((12, 1)), "12")
        self.assertEqual(number_text((-12, 1)), "-12")
        self.assertEqual(number_text((3, 2)), "3/2")
        self.assertEqual(number_text((-3, 10)), "-3/10")

    def test_any_number_of_figures(self):
        self.assertEqual(number_text((10 ** 60, 1)), "1" + "0" * 60)
        self.assertEqual(number_text((-1, 10 ** 3998 + 1)), "-1/1" + "0" * 3997 + "1")
        self.assertEqual(number_text((1 - 10 ** 4000, 7)), "-" + "9" * 4000 + "/7")

    def test_read_again(self):
        for word in ("0", "5", "-5", "7/3", "-7/3", NINES, "-" + NINES + "/" + TEN):
            self.assertEqual(number_text(number_of(word)), word)


class ReadRoofs(unittest.TestCase):
    def test_the_documents_own(self):
        roof = read("0 0 0; 1 0 -3/2; 0 1 0; 1 0 -2")
        self.assertEqual(roof, [(0, 0, (0, 1)), (0, 1, (0, 1)), (1, 0, (-3, 2))])

    def test_one_plane(self):
        self.assertEqual(read("8 0 -7/3"), [(8, 0, (-7, 3))])
        self.assertEqual(read("0 8 " + NINES), [(0, 8, (10 ** 30 - 1, 1))])

    def test_each_slope(self):
        for i, j in samples.ALL_SLOPES:
            self.assertEqual(read(f"{i} {j} 1/2"), [(i, j, (1, 2))])

    def test_any_order_and_like_slopes(self):
        roof = [(1, 2, (1, 2)), (2, 1, (-1, 3))]
        self.assertEqual(read("2 1 -1/2; 1 2 1/2; 2 1 -1/3; 2 1 -2/3; 1 2 1/2"), roof)
        self.assertEqual(read("2 1 -2/3; 2 1 -1/3; 1 2 1/2; 2 1 -1/2"), roof)

    def test_nothing_is_struck_out(self):
        self.assertEqual(len(read("0 0 0; 1 0 -100; 2 0 0")), 3)

    def test_sixteen_unlike_slopes(self):
        slopes = samples.ALL_SLOPES[30:46]
        flat = [(i, j, (0, 1)) for i, j in slopes]
        self.assertEqual(read(flat_text(slopes)), flat)
        self.assertEqual(read(flat_text(slopes[::-1] + slopes + slopes)), flat)

    def test_long_heights(self):
        roof = read("1 1 -" + NINES + "/" + TEN + "; 0 0 1/" + NINES)
        self.assertEqual(roof, [(0, 0, (1, 10 ** 30 - 1)), (1, 1, (1 - 10 ** 30, 10 ** 29))])

    def test_told_roof_is_a_new_list(self):
        samples.check_own(self, read, "1 0 0; 0 0 -1/2")

    def test_more_than_sixteen_unlike_slopes(self):
        for slopes in (samples.ALL_SLOPES[:17], samples.ALL_SLOPES, samples.ALL_SLOPES[:17] * 2):
            with self.assertRaises(RoofError) as taken:
                read(flat_text(slopes))
            self.assertIs(type(taken.exception), TooMany)


class RefusedTexts(unittest.TestCase):
    def check_refused(self, thing, at):
        with self.assertRaises(RoofError) as taken:
            read(thing)
        self.assertIs(type(taken.exception), NoText)
        self.assertEqual(taken.exception.at, at)
        self.assertIs(type(taken.exception.at), int)

    def test_no_texts(self):
        for thing in NO_TEXTS:
            with self.subTest(thing):
                self.check_refused(thing, -1)

    def test_spoilt_planes_at_each_place(self):
        spoilt = ["", " ", "0", "0 0", "0 0 ", " 0 0", "0 0 0 ", " 0 0 0", "0  0 0", "0 0  0", "0 0 0 0", "0,0,0",
                  "9 0 0", "0 9 0", "-1 0 0", "0 -1 0", "10 0 0", "0 10 0", "00 0 0", "0 00 0", "+1 0 0", "a 0 0",
                  "0 a 0", "1/2 0 0", "0 0 a", "0 0 -0", "0 0 2/4", "0 0 1/1", "0 0 1/0", "0 0 01", "0 0 +1",
                  "0 0 0\n", "\n0 0 0", "0\n0 0", "0 0\t0", "0 0 0;", ";0 0 0", "0 0 0;1 0 0", "0 0 0 ;",
                  "0 0 1" + "0" * 30, "0 0 1/1" + "0" * 30, " 0 0", "0 0", "\u0661 0 0", "0 \u00b2 0", "0 0 \u0661",
                  "08 0 0", "012 0 0", "0 012 0"]
        for part in spoilt:
            for place in range(4):
                parts = ["1 1 0", "1 2 -1/2", "1 3 5"]
                parts.insert(place, part)
                with self.subTest(part=part, place=place):
                    self.check_refused("; ".join(parts), place)

    def test_spoilt_texts(self):
        pairs = [("", 0), (" ", 0), (";", 0), ("; ", 0), ("; ; ", 0), ("\n", 0), ("0 0 0;", 0), ("0 0 0; ", 1),
                 ("0 0 0; 1 0 0; ", 2), ("; 0 0 0", 0), ("0 0 0; ; 1 0 0", 1), ("0 0 0;; 1 0 0", 0),
                 ("0 0 0;  1 0 0", 1), ("0 0 0 ; 1 0 0", 0), ("0 0 0;\n1 0 0", 0), ("0 0 0;1 0 0; 2 0 0", 0),
                 ("0 0 0, 1 0 0", 0), ("0 0 0\n", 0), ("0 0 0; 1 0 0\n", 1), ("0 0 0; 1 0 0;", 1), ("roof", 0)]
        for text, place in pairs:
            with self.subTest(text):
                self.check_refused(text, place)

    def test_the_first_spoilt_part_is_told(self):
        self.check_refused("0 0 0; 9 0 0; 1 0 0; 0 9 0", 1)
        self.check_refused("x; y; z", 0)
        self.check_refused("; ".join(["0 0 0"] * 300 + ["0 0"]), 300)

    def test_spoilt_goes_before_too_many(self):
        many = flat_text(samples.ALL_SLOPES[:20])
        self.check_refused(many + "; 0 0", 20)
        self.check_refused("0 9 0; " + many, 0)
        self.check_refused(many + "; 9 9 0", 20)


class WrittenRoofs(unittest.TestCase):
    def test_in_order(self):
        roof = read("0 0 0; 1 0 -3/2; 0 1 0; 1 0 -2")
        self.assertEqual(written(roof), "0 0 0; 0 1 0; 1 0 -3/2")

    def test_one_plane(self):
        self.assertEqual(written([(8, 7, (-1, 6))]), "8 7 -1/6")

    def test_any_number_of_figures(self):
        self.assertEqual(written([(0, 0, (10 ** 60, 10 ** 61 + 1))]), "0 0 1" + "0" * 60 + "/1" + "0" * 60 + "1")

    def test_more_figures_are_not_read_again(self):
        with self.assertRaises(NoText) as taken:
            read(written([(0, 0, (0, 1)), (1, 0, (10 ** 30, 1))]))
        self.assertEqual(taken.exception.at, 1)

    def test_read_again(self):
        for roof in samples.sample_roofs():
            self.assertEqual(read(written(roof)), roof_of(roof))

    def test_what_was_handed_in_is_as_it_was(self):
        samples.check_own(self, written, [(0, 0, (0, 1)), (1, 0, (-3, 2))])


if __name__ == "__main__":
    unittest.main()
