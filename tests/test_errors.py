import unittest

from creasecurve import errors

OF_ONE_TEXT = ["NoFraction", "NoRoof", "TooSteep", "TooMany", "NoNumber", "NoCorner", "NoDealing", "NoRow"]
ALL_REFUSALS = OF_ONE_TEXT + ["NoText", "NoName"]


class Errors(unittest.TestCase):
    def test_roof_error_is_a_value_error(self):
        self.assertEqual(errors.RoofError.__bases__, (ValueError,))

    def test_each_refusal_stands_right_under_roof_error(self):
        for name in ALL_REFUSALS:
            with self.subTest(name):
                self.assertEqual(getattr(errors, name).__bases__, (errors.RoofError,))

    def test_no_refusal_stands_under_another_one(self):
        for name in ALL_REFUSALS:
            for other in ALL_REFUSALS:
                if name != other:
                    with self.subTest(name=name, other=other):
                        self.assertFalse(issubclass(getattr(errors, name), getattr(errors, other)))

    def test_refusals_made_of_one_text(self):
        for name in OF_ONE_TEXT:
            with self.subTest(name):
                self.assertEqual(str(getattr(errors, name)("some words")), "some words")

    def test_no_text_has_its_field(self):
        for at in (-1, 0, 7):
            self.assertEqual(errors.NoText(at).at, at)

    def test_no_name_has_its_field(self):
        self.assertEqual(errors.NoName("shed").name, "shed")

    def test_a_raised_refusal_keeps_its_field(self):
        with self.assertRaises(errors.RoofError) as taken:
            raise errors.NoText(3)
        self.assertEqual(taken.exception.at, 3)
        with self.assertRaises(ValueError) as taken:
            raise errors.NoName("barn")
        self.assertEqual(taken.exception.name, "barn")


if __name__ == "__main__":
    unittest.main()
