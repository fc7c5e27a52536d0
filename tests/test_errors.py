import unittest

from evenhand.errors import BadAmount, BadGifts, BadRow, BadText, ShareError, Unlike


class Errors(unittest.TestCase):
    def test_share_error_stands_straight_under_value_error(self):
        self.assertEqual(ShareError.__bases__, (ValueError,))

    def test_each_refusal_stands_straight_under_share_error(self):
        for error in (BadRow, BadGifts, BadAmount, Unlike, BadText):
            with self.subTest(error=error.__name__):
                self.assertEqual(error.__bases__, (ShareError,))

    def test_names(self):
        names = [error.__name__ for error in (ShareError, BadRow, BadGifts, BadAmount, Unlike, BadText)]
        self.assertEqual(names, ["ShareError", "BadRow", "BadGifts", "BadAmount", "Unlike", "BadText"])


if __name__ == "__main__":
    unittest.main()
