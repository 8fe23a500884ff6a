"""The examples of the document, as they stand there."""

import unittest

from restballots.nights import Night


class NightsTest(unittest.TestCase):
    def test_nights(self):
        night = Night.read("divisors 1 2 3\nparty red 50\nparty blue 30\nparty gold 18\npile 20 blue gold")
        self.assertEqual(
            repr([night.divisors, night.parties, night.piles, night.names, night.seats, len(night), len(night.tables())]),
            "[(1, 2, 3), (('red', 50), ('blue', 30), ('gold', 18)), ((20, ('blue', 'gold')),), ('red', 'blue', 'gold'), 3, 3, 10]",
        )
        self.assertEqual(
            repr([night.counted(0, (4, 16)).parties, night.changed(("size", 0, 5)).piles, night.tables()[:2]]),
            "[(('red', 50), ('blue', 34), ('gold', 34)), ((5, ('blue', 'gold')),), ((0, 0, 3), (0, 1, 2))]",
        )


if __name__ == "__main__":
    unittest.main()
