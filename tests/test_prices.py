import itertools
import random
from fractions import Fraction

from restballots.nights import Night
from restballots.prices import distance, least_price, needs
from restballots.results import is_result, prices, results
from tests import oracle
from tests.samples import CloseTest, sample

NAMES = ("a", "b", "c", "d", "e", "f")
HARD_ROWS = ((89, 90, 91, 92), (98, 99, 100), (1, 99, 100), (50, 51, 52, 53, 54), (7, 9, 10))


def night_with(row, counts, piles=()):
    return Night(row, tuple(zip(NAMES, counts)), piles)


def picks(seed):
    """Ways to choose a step: the first one, the last one, that to the least or the greatest price, any one."""
    source = random.Random(seed)
    by_price = [lambda found: min(found, key=lambda step: step[1]), lambda found: max(found, key=lambda step: step[1])]
    return [lambda found: found[0], lambda found: found[-1], source.choice] + by_price


class LeastPriceTest(CloseTest):
    def agrees(self, night, table, seed=1):
        """The answers are those of point 9, by steps made in several orders."""
        price = least_price(night, table)
        self.assertEqual([type(price), type(price[0]), type(price[1])], [tuple, int, int])
        for pick in picks(seed):
            self.assertEqual(price, oracle.pair(oracle.least_price(night, table, pick)))
        needed = oracle.needs(night, table, Fraction(*price))
        self.assertEqual(needs(night, table), needed)
        self.assertIs(type(needs(night, table)), tuple)
        self.assertEqual(distance(night, table), sum(needed) - sum(oracle.counts_of(night)))
        self.assertIs(type(distance(night, table)), int)
        self.assertTrue(oracle.fits(night.divisors, needed, table, Fraction(*price)))

    def test_all_tables_of_small_nights(self):
        for night in oracle.small_nights(11, 120):
            for table in night.tables():
                self.agrees(night, table)

    def test_where_many_steps_are_made(self):
        source = random.Random(12)
        for row in HARD_ROWS:
            for most in (0, 1, 3, 12):
                night = night_with(row, [source.randint(0, most) for _ in range(3)])
                for table in night.tables():
                    self.agrees(night, table)

    def test_divisors_close_together(self):
        for seed, night in enumerate(oracle.close_nights(18, 30)):
            for table in oracle.some_tables(night, seed, 3):
                self.agrees(night, table, seed)

    def test_great_nights(self):
        for seed, night in enumerate(oracle.great_nights(13, 40)):
            for table in oracle.some_tables(night, seed, 10):
                self.agrees(night, table, seed)

    def test_by_hand(self):
        night = sample()
        told = [((1, 1, 1), (25, 1), (50, 30, 25), 7), ((2, 1, 0), (18, 1), (50, 30, 18), 0), ((1, 2, 0), (25, 1), (50, 50, 18), 20),
                ((2, 0, 1), (30, 1), (60, 30, 30), 22), ((3, 0, 0), (30, 1), (90, 30, 18), 40), ((0, 0, 3), (50, 1), (50, 30, 150), 132)]
        for table, price, needed, far in told:
            self.assertEqual([least_price(night, table), needs(night, table), distance(night, table)], [price, needed, far])

    def test_needs_are_rounded_up(self):
        night = night_with((2, 3), (10, 0))
        self.assertEqual([least_price(night, (1, 1)), needs(night, (1, 1)), distance(night, (1, 1))], [(10, 3), (10, 7), 7])
        night = night_with((2, 3), (9, 0))
        self.assertEqual([least_price(night, (1, 1)), needs(night, (1, 1)), distance(night, (1, 1))], [(3, 1), (9, 6), 6])
        night = night_with((3, 4), (4, 2))
        self.assertEqual([least_price(night, (1, 1)), needs(night, (1, 1)), distance(night, (1, 1))], [(1, 1), (4, 3), 1])

    def test_a_step_that_rounding_asks_for(self):
        night = night_with((9, 10), (1, 1))
        self.assertEqual([least_price(night, (1, 1)), needs(night, (1, 1))], [(1, 10), (1, 1)])
        night = night_with((7, 9, 10), (1, 0, 0))
        self.assertEqual([least_price(night, (0, 2, 1)), needs(night, (0, 2, 1)), distance(night, (0, 2, 1))], [(2, 9), (1, 2, 2), 4])
        night = night_with((7, 8, 9), (1, 0, 0))
        self.assertEqual([least_price(night, (0, 2, 1)), needs(night, (0, 2, 1)), distance(night, (0, 2, 1))], [(1, 4), (1, 2, 2), 4])

    def test_the_least_price_0(self):
        for row in ((1,), (2, 3), (1, 4, 9)):
            for many in (1, 2, 4):
                night = night_with(row, (0,) * many)
                for table in night.tables():
                    self.assertEqual([least_price(night, table), needs(night, table), distance(night, table)], [(0, 1), (0,) * many, 0])
        night = night_with((1, 4), (0, 100, 0))
        self.assertEqual([least_price(night, (0, 2, 0)), needs(night, (0, 2, 0))], [(0, 1), (0, 100, 0)])
        self.assertEqual([least_price(night, (0, 1, 1)), needs(night, (0, 1, 1))], [(25, 1), (0, 100, 25)])
        self.assertEqual(least_price(night_with((3, 4, 5), (10 ** 6,)), (3,)), (0, 1))

    def test_without_a_common_divisor(self):
        self.assertEqual(least_price(night_with((4, 6), (50, 0)), (1, 1)), (25, 3))
        self.assertEqual(least_price(night_with((4, 6), (54, 0)), (1, 1)), (9, 1))

    def test_results_are_at_no_distance(self):
        for night in oracle.small_nights(14, 60) + oracle.great_nights(15, 10):
            found = results(night)
            for table in list(found[:20]) + oracle.some_tables(night, 16, 20):
                self.assertEqual(distance(night, table) == 0, is_result(night, table))
                self.assertGreaterEqual(distance(night, table), 0)
                if table in found:
                    self.assertEqual(least_price(night, table), prices(night, table)[0])
                    self.assertEqual(needs(night, table), oracle.counts_of(night))

    def test_distance_by_going_through_all_ways(self):
        rows = ((1, 2), (2, 3), (1, 3), (1, 2, 3), (5, 6, 7), (1, 10, 11))
        for row in rows:
            for many in (1, 2, 3):
                for counts in itertools.product((0, 1, 2, 4), repeat=many):
                    night = night_with(row, counts)
                    for table in night.tables():
                        if distance(night, table) <= 9:
                            self.assertEqual(distance(night, table), oracle.distance(row, counts, table))

    def test_great_distances_are_not_told_too_great(self):
        for night in oracle.small_nights(17, 60):
            counts = oracle.counts_of(night)
            for table in night.tables():
                for fewer in range(min(distance(night, table), 5)):
                    self.assertFalse(any(oracle.is_result(night.divisors, more, table) for more in oracle.raised_by(counts, fewer)))

    def test_piles_are_nothing_to_them(self):
        one = night_with((2, 3, 7), (5, 3, 1))
        for piles in ((), ((0, ("a",)),), ((10 ** 6, ("a", "c")), (7, ("b",)))):
            other = night_with((2, 3, 7), (5, 3, 1), piles)
            for table in one.tables():
                self.assertEqual([least_price(one, table), needs(one, table), distance(one, table)],
                                 [least_price(other, table), needs(other, table), distance(other, table)])

    def test_by_name_and_again(self):
        night = sample()
        for _ in range(2):
            self.assertEqual(least_price(night=night, table=(1, 1, 1)), (25, 1))
            self.assertEqual(needs(table=(1, 1, 1), night=night), (50, 30, 25))
            self.assertEqual(distance(night=night, table=(1, 1, 1)), 7)
        self.assertEqual(night, sample())
