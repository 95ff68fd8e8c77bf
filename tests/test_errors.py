import unittest

from towerstair import errors


class Errors(unittest.TestCase):
    def test_stair_error_is_straight_under_value_error(self):
        self.assertEqual(errors.StairError.__bases__, (ValueError,))

    def test_the_others_are_straight_under_stair_error(self):
        for name in ["BadStairs", "BadCount", "BadNumber", "BadTowers", "BadText"]:
            with self.subTest(name=name):
                told = getattr(errors, name)
                self.assertEqual(told.__bases__, (errors.StairError,))
                self.assertEqual((told.__name__, told.__module__), (name, "towerstair.errors"))


if __name__ == "__main__":
    unittest.main()
