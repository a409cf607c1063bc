import unittest

from overlapturns import limits


class LimitsTest(unittest.TestCase):
    def test_each_limit_has_its_value(self):
        told = {
            "MOST_STEPS": 8,
            "MOST_OFFSET": 4,
            "MOST_DISTANCE": 3,
            "MOST_LINES": 400,
            "MOST_PLACES": 80,
            "MOST_BOUND": 12,
            "MOST_COUNT": 400,
        }
        for name, value in told.items():
            with self.subTest(name=name):
                self.assertIs(type(getattr(limits, name)), int)
                self.assertEqual(getattr(limits, name), value)


if __name__ == "__main__":
    unittest.main()
