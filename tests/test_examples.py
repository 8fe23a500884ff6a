"""The examples of the document, as they stand there."""

import unittest

from restballots.blocs import is_sure, margin, mattering, may_have, seat_range, seatless
from restballots.errors import InvalidPiles
from restballots.live import Desk
from restballots.mends import holds, mends
from restballots.nights import Night
from restballots.possible import ballots_for, barring, is_possible, possible
from restballots.prices import distance, least_price, needs
from restballots.results import is_result, prices, results
from restballots.rules import are_alike, favours, parting_counts, parting_pairs
from tests.samples import CloseTest, sample


class NightsTest(unittest.TestCase):
    def test_nights(self):
        night = Night.read("divisors 1 2 3\nparty red 50\nparty blue 30\nparty gold 18\npile 20 blue gold")
        self.assertEqual(
            repr([night.divisors, night.parties, night.piles, night.names, night.seats, len(night), len(night.tables())]),
            "[(1, 2, 3), (('red', 50), ('blue', 30), ('gold', 18)), ((20, ('blue', 'gold')),), ('red', 'blue', 'gold'), 3, 3, 10]",
        )
        self.assertEqual(
            repr([night.counted(0, (4, 16)).parties, night.changed(("size", 0, 5)).piles, night.tables()[:2]]),
            "[(('red', 50), ('blue', 34), ('gold', 34)), ((5, ('blue', 'gold')),), ((0, 0, 3), (0, 1, 2))]",
        )


class QuestionsTest(unittest.TestCase):
    def test_results(self):
        night = sample()
        self.assertEqual(
            repr([results(night), prices(night, (2, 1, 0)), is_result(night, (1, 1, 1)), prices(night, (1, 1, 1))]),
            "[((2, 1, 0),), ((18, 1), (25, 1)), False, None]",
        )
        self.assertEqual(repr(results(Night((1, 3), (("a", 30), ("b", 10)), ()))), "((1, 1), (2, 0))")

    def test_prices(self):
        night = sample()
        self.assertEqual(
            repr([least_price(night, (1, 1, 1)), needs(night, (1, 1, 1)), distance(night, (1, 1, 1)), needs(night, (2, 0, 1)),
                  distance(night, (2, 1, 0))]),
            "[(25, 1), (50, 30, 25), 7, (60, 30, 30), 0]",
        )

    def test_possible(self):
        night = sample()
        self.assertEqual(
            repr([possible(night), is_possible(night, (2, 0, 1)), len(barring(night, (2, 0, 1))), barring(night, (1, 1, 1))]),
            "[((1, 1, 1), (1, 2, 0), (2, 1, 0)), False, 2, None]",
        )
        self.assertEqual(
            repr([ballots_for(night, (1, 2, 0)), ballots_for(night, (2, 0, 1))]),
            "[(((20, 0),), (25, 1)), None]",
        )

    def test_blocs(self):
        night = sample()
        self.assertEqual(
            repr([seat_range(night, ("red",)), seat_range(night, ("blue", "gold")), is_sure(night, ("red",), 1),
                  may_have(night, ("gold",), 2)]),
            "[(1, 2), (1, 2), True, False]",
        )
        self.assertEqual(
            repr([margin(night, ("blue",), 2), margin(night, ("gold",), 1), margin(night, ("red",), 2), mattering(night, ("red",)),
                  seatless(night)]),
            "[20, 7, 0, (0,), ()]",
        )


class RulesTest(unittest.TestCase):
    def test_rules(self):
        self.assertEqual(
            repr([parting_pairs((1, 2, 3), (1, 3, 5), 2), parting_pairs((1, 2, 3), (1, 3, 5), 3), are_alike((1, 2, 3), (2, 4, 6), 4)]),
            "[((1, 3),), ((1, 2), (1, 3)), True]",
        )
        self.assertEqual(
            repr([favours((1, 3, 5), (1, 2, 3)), favours((1, 2, 3), (1, 3, 5)), parting_counts((1, 2), (3, 6), 2)]),
            "[True, False, None]",
        )


class MendsTest(unittest.TestCase):
    def test_mends(self):
        night = sample()
        self.assertEqual(
            repr([holds(night, ("can", (1, 1, 1))), holds(night, ("sure", ("red",), 2)), holds(night, ("far", ("gold",), 1, 7)),
                  holds(night, ("may", ("gold",), 2))]),
            "[True, False, True, False]",
        )
        changes = (("size", 0, 6), ("count", 0, 76), ("size", 0, 7), ("divisor", 1, 3))
        self.assertEqual(repr(mends(night, (("sure", ("red",), 2),), changes)), "((0,), (1,))")


class LiveTest(CloseTest):
    def test_live(self):
        desk = Desk(sample())
        desk.count(0, (4, 16))
        self.assertEqual(
            repr([len(desk), desk.still, desk.night.parties, possible(desk.night)]),
            "[0, 1, (('red', 50), ('blue', 34), ('gold', 34)), ((1, 1, 1),)]",
        )
        self.raises_index(InvalidPiles, 0, desk.add, 3, ("red", "green"))


if __name__ == "__main__":
    unittest.main()
