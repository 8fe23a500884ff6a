import unittest

from restballots import limits


class LimitsTest(unittest.TestCase):
    def test_numbers(self):
        told = {
            "MOST_SEATS": 12, "MOST_DIVISOR": 100, "MOST_PARTIES": 6, "MOST_PILES": 6, "MOST_COUNT": 1000000,
            "MOST_FAR": 10000000, "MOST_CHANGES": 5, "MOST_DEMANDS": 5,
        }
        for name, number in told.items():
            with self.subTest(name=name):
                self.assertIs(type(getattr(limits, name)), int)
                self.assertEqual(getattr(limits, name), number)


if __name__ == "__main__":
    unittest.main()
