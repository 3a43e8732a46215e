import unittest

from shapethin.errors import NoBack, NoForm, NoName, NoRow, NoText, ShapeError, TooGreat, TooMany

REFUSALS = [TooGreat, TooMany, NoText, NoForm, NoName, NoRow, NoBack]


class Errors(unittest.TestCase):
    def test_shape_error_is_a_value_error(self):
        self.assertEqual(ShapeError.__bases__, (ValueError,))

    def test_each_refusal_stands_straight_under_shape_error(self):
        for refusal in REFUSALS:
            with self.subTest(refusal=refusal.__name__):
                self.assertEqual(refusal.__bases__, (ShapeError,))

    def test_no_refusal_stands_under_another(self):
        for one in REFUSALS:
            for other in REFUSALS:
                self.assertEqual(issubclass(one, other), one is other)

    def test_a_refusal_can_be_raised_with_words(self):
        for refusal in REFUSALS:
            with self.assertRaises(ShapeError):
                raise refusal("words")


if __name__ == "__main__":
    unittest.main()
