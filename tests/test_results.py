import itertools
import random
from fractions import Fraction

from restballots.nights import Night
from restballots.results import is_result, prices, results
from tests import oracle
from tests.samples import CloseTest, sample

NAMES = ("a", "b", "c", "d", "e", "f")


def night_with(row, counts, piles=()):
    return Night(row, tuple(zip(NAMES, counts)), piles)


class ResultsTest(CloseTest):
    def agrees(self, night):
        """All answers are those of point 7."""
        told = oracle.results(night.divisors, oracle.counts_of(night))
        found = results(night)
        self.assertEqual(found, told)
        self.assertIs(type(found), tuple)
        self.assertGreater(len(found), 0)
        for table in night.tables():
            self.assertIs(is_result(night, table), table in told)
            self.agrees_on_prices(night, table)

    def agrees_on_prices(self, night, table):
        told = oracle.all_prices(night.divisors, oracle.counts_of(night), table)
        found = prices(night, table)
        self.assertEqual(found, (oracle.pair(told[0]), oracle.pair(told[-1])) if told else None)
        if found:
            self.assertEqual([type(part) for price in found for part in price], [int] * 4)
            self.assertEqual([type(found), type(found[0]), type(found[1])], [tuple] * 3)

    def test_all_counts_of_small_nights(self):
        for row in ((1,), (1, 2), (2, 3), (1, 2, 3), (1, 3, 5)):
            for many in (1, 2, 3):
                for counts in itertools.product(range(4), repeat=many):
                    self.agrees(night_with(row, counts))

    def test_small_nights(self):
        for night in oracle.small_nights(1, 150):
            self.agrees(night)

    def test_four_parties(self):
        source = random.Random(2)
        for row in ((1, 2, 3), (3, 5, 6, 10), (98, 99, 100)):
            for most in (1, 4, 30):
                self.agrees(night_with(row, [source.randint(0, most) for _ in range(4)]))

    def test_by_hand(self):
        self.assertEqual(results(sample()), ((2, 1, 0),))
        self.assertEqual(results(night_with((1, 3, 5), (50, 30, 20))), ((1, 1, 1),))
        self.assertEqual(results(night_with((1, 2), (9, 3))), ((2, 0),))
        self.assertEqual(results(night_with((1, 2), (3, 9))), ((0, 2),))
        self.assertEqual(results(night_with((1, 2), (3, 5))), ((1, 1),))

    def test_ties(self):
        self.assertEqual(results(night_with((1,), (5, 5))), ((0, 1), (1, 0)))
        self.assertEqual(results(night_with((1,), (5, 4))), ((1, 0),))
        self.assertEqual(results(night_with((1,), (4, 5, 5))), ((0, 0, 1), (0, 1, 0)))
        self.assertEqual(results(night_with((1, 2), (5, 5, 5))), ((0, 1, 1), (1, 0, 1), (1, 1, 0)))
        self.assertEqual(results(night_with((1, 2), (6, 3, 3))), ((1, 0, 1), (1, 1, 0), (2, 0, 0)))
        self.assertEqual(results(night_with((1, 3), (30, 10))), ((1, 1), (2, 0)))
        self.assertEqual(results(night_with((1, 3), (30, 11))), ((1, 1),))
        self.assertEqual(results(night_with((1, 3), (31, 10))), ((2, 0),))
        self.assertEqual(len(results(night_with((1, 2, 3), (7,) * 6))), 20)

    def test_counts_of_zero(self):
        for many in range(1, 5):
            night = night_with((1, 4, 9), (0,) * many)
            self.assertEqual(results(night), night.tables())
            for table in night.tables():
                self.assertEqual(prices(night, table), ((0, 1), (0, 1)))
        night = night_with((2, 3, 5), (0, 7, 0))
        self.assertEqual(results(night), ((0, 3, 0),))
        self.assertEqual(prices(night, (0, 3, 0)), ((0, 1), (7, 5)))
        self.assertIsNone(prices(night, (1, 2, 0)))
        night = night_with((2, 3), (0, 0, 1))
        self.assertEqual(prices(night, (0, 0, 2)), ((0, 1), (1, 3)))

    def test_one_party(self):
        for counts, price in (((0,), (0, 1)), ((30,), (5, 1)), ((31,), (31, 6)), ((10 ** 6,), (500000, 3))):
            night = night_with((1, 2, 6), counts)
            self.assertEqual([results(night), is_result(night, (3,)), prices(night, (3,))], [((3,),), True, ((0, 1), price)])

    def test_one_seat(self):
        night = night_with((4,), (8, 20, 3))
        self.assertEqual([results(night), prices(night, (0, 1, 0))], [((0, 1, 0),), ((2, 1), (5, 1))])
        self.assertIsNone(prices(night, (1, 0, 0)))

    def test_two_parties_with_equal_counts(self):
        for count in (0, 1, 7, 10 ** 6):
            night = night_with((1, 2, 3, 4), (count, count))
            self.assertEqual(results(night), ((2, 2),) if count else night.tables())
            night = night_with((1, 2, 3), (count, count))
            self.assertEqual(results(night), ((1, 2), (2, 1)) if count else night.tables())

    def test_prices_alike_where_claims_are_equal(self):
        self.assertEqual(prices(night_with((1, 3), (30, 10)), (1, 1)), ((10, 1), (10, 1)))
        self.assertEqual(prices(night_with((1, 3), (30, 10)), (2, 0)), ((10, 1), (10, 1)))
        self.assertEqual(prices(night_with((4, 6), (9, 6)), (2, 0)), ((3, 2), (3, 2)))
        self.assertEqual(prices(night_with((1, 3), (30, 12)), (1, 1)), ((10, 1), (12, 1)))

    def test_great_nights(self):
        for night in oracle.great_nights(3, 12):
            found = results(night)
            self.assertEqual(list(found), sorted(set(found)))
            self.assertEqual(found, tuple(table for table in night.tables() if is_result(night, table)))
            self.assertGreater(len(found), 0)
            for table in found:
                self.agrees_on_prices(night, table)
            for table in oracle.some_tables(night, 4, 20):
                self.agrees_on_prices(night, table)

    def test_all_tables_of_great_nights_with_ties(self):
        source = random.Random(6)
        for row in (tuple(range(1, 13)), tuple(range(1, 24, 2)), (2, 4, 6, 8, 12, 24), tuple(range(89, 101))):
            for most in (1, 2, 720):
                for many in (4, 6):
                    counts = [source.choice([0, most, most // 2, most // 3, 2 * most, 60, 60]) for _ in range(many)]
                    night = night_with(row, counts)
                    self.assertEqual(results(night), tuple(table for table in night.tables() if is_result(night, table)))

    def test_ties_of_a_great_night(self):
        night = night_with(tuple(range(1, 13)), (360, 240, 240, 60, 0, 720))
        # Nine claims are above 120, and four are just 120 for the three seats that are left.
        self.assertEqual(results(night), ((2, 2, 2, 0, 0, 6), (3, 1, 2, 0, 0, 6), (3, 2, 1, 0, 0, 6), (3, 2, 2, 0, 0, 5)))
        self.assertEqual(results(night), tuple(table for table in night.tables() if is_result(night, table)))

    def test_all_tables_where_all_counts_are_0(self):
        for seats, many in ((12, 6), (12, 1), (1, 6), (5, 4)):
            night = night_with(tuple(range(1, seats + 1)), (0,) * many)
            self.assertEqual(results(night), night.tables())

    def test_the_greatest_night(self):
        counts = (10 ** 6, 999999, 500000, 333333, 1, 0)
        night = night_with(tuple(range(1, 13)), counts)
        self.assertEqual(results(night), ((5, 4, 2, 1, 0, 0),))
        self.assertEqual(oracle.all_prices(night.divisors, counts, (5, 4, 2, 1, 0, 0))[0], Fraction(999999, 5))
        self.agrees_on_prices(night, (5, 4, 2, 1, 0, 0))
        night = night_with(tuple(range(89, 101)), (10 ** 6,) * 6)
        self.assertEqual(results(night), ((2,) * 6,))

    def test_beyond_the_prices_it_is_no_result(self):
        for night in oracle.small_nights(5, 60):
            counts = oracle.counts_of(night)
            for table in results(night):
                low, high = [Fraction(*price) for price in prices(night, table)]
                self.assertTrue(oracle.fits(night.divisors, counts, table, low))
                self.assertTrue(oracle.fits(night.divisors, counts, table, high))
                self.assertTrue(oracle.fits(night.divisors, counts, table, (low + high) / 2))
                self.assertFalse(oracle.fits(night.divisors, counts, table, high + Fraction(1, 10 ** 9)))
                if low > 0:
                    self.assertFalse(oracle.fits(night.divisors, counts, table, low - Fraction(1, 10 ** 9)))

    def test_piles_are_nothing_to_them(self):
        one = night_with((1, 2, 3), (5, 3, 1))
        other = night_with((1, 2, 3), (5, 3, 1), ((10 ** 6, ("a", "c")), (7, ("b",))))
        self.assertEqual(results(one), results(other))
        for table in one.tables():
            self.assertEqual([is_result(one, table), prices(one, table)], [is_result(other, table), prices(other, table)])

    def test_by_name(self):
        self.assertEqual(results(night=sample()), ((2, 1, 0),))
        self.assertIs(is_result(night=sample(), table=(2, 1, 0)), True)
        self.assertEqual(prices(table=(2, 1, 0), night=sample()), ((18, 1), (25, 1)))


class PricesTest(CloseTest):
    def test_without_a_common_divisor(self):
        night = night_with((4, 6, 10), (60, 24, 8))
        self.assertEqual(prices(night, (2, 1, 0)), ((6, 1), (6, 1)))
        night = night_with((4, 6, 10), (50, 24, 8))
        self.assertEqual(prices(night, (2, 1, 0)), ((5, 1), (6, 1)))
        night = night_with((4, 6, 10), (50, 26, 8))
        self.assertEqual(prices(night, (2, 1, 0)), ((5, 1), (13, 2)))
        night = night_with((4, 6, 10), (51, 26, 8))
        self.assertEqual(prices(night, (2, 1, 0)), ((51, 10), (13, 2)))

    def test_all_seats_with_one_party(self):
        night = night_with((2, 3, 7), (100, 5, 9))
        self.assertEqual(prices(night, (3, 0, 0)), ((9, 2), (100, 7)))
        self.assertEqual(prices(night_with((2, 3, 7), (100, 0, 0)), (3, 0, 0)), ((0, 1), (100, 7)))
