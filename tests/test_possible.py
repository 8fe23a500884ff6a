import random
from fractions import Fraction
from math import gcd

from restballots.kinds import is_integer
from restballots.nights import Night
from restballots.possible import ballots_for, barring, is_possible, possible
from restballots.results import results
from tests import oracle
from tests.samples import CloseTest, sample

NAMES = ("f", "b", "d", "a", "e", "c")


def greatest_night(seed, most_left, most=10 ** 6):
    source = random.Random(seed)
    parties = tuple((name, source.randint(0, most)) for name in NAMES)
    return Night(tuple(range(1, 13)), parties, oracle.piles_for(source, NAMES, 6, most_left))


class PossibleTest(CloseTest):
    def agrees(self, night):
        told = oracle.possible(night)
        found = possible(night)
        self.assertEqual(found, told)
        self.assertIs(type(found), tuple)
        for table in night.tables():
            self.assertIs(is_possible(night, table), table in told)
            self.has_papers(night, table, table in told)

    def has_papers(self, night, table, can):
        ballots = ballots_for(night, table)
        bars = barring(night, table)
        self.assertEqual([ballots is None, bars is None], [not can, can])
        if can:
            self.makes(night, table, ballots)
        else:
            self.bars(night, table, bars)
        self.assertEqual([ballots, bars], [ballots_for(night, table), barring(night, table)])

    def is_fraction(self, value):
        self.assertEqual([type(value), len(value)], [tuple, 2])
        self.assertTrue(is_integer(value[0]) and is_integer(value[1]))
        self.assertTrue(value[0] >= 0 and value[1] > 0 and gcd(*value) == 1)

    def makes(self, night, table, paper):
        """The paper is a certificate for "can"."""
        self.assertEqual([type(paper), len(paper)], [tuple, 2])
        ballots, price = paper
        self.is_fraction(price)
        self.assertEqual([type(ballots), len(ballots)], [tuple, len(night.piles)])
        for row, (size, names) in zip(ballots, night.piles):
            self.assertEqual([type(row), len(row)], [tuple, len(names)])
            self.assertTrue(all(is_integer(own) and own >= 0 for own in row) and sum(row) <= size)
        counts = oracle.counts_with(night, ballots)
        self.assertTrue(oracle.fits(night.divisors, counts, table, Fraction(*price)))

    def bars(self, night, table, paper):
        """The paper is a certificate for "barred"."""
        self.assertEqual([type(paper), len(paper)], [tuple, 2])
        steps, bloc = paper
        self.assertIs(type(steps), tuple)
        price = Fraction(0)
        for step in steps:
            self.assertEqual([type(step), len(step)], [tuple, 2])
            self.is_fraction(step[1])
            self.assertIn((step[0], Fraction(*step[1])), oracle.steps(night, table, price))
            price = Fraction(*step[1])
        self.assertIn(bloc, oracle.groups(night.names))
        self.assertGreater(oracle.lack(night, table, price, bloc), oracle.room(night, bloc))

    def test_small_nights(self):
        for night in oracle.small_nights(21, 200):
            self.agrees(night)

    def test_small_nights_with_more_piles(self):
        source = random.Random(22)
        for _ in range(30):
            row = source.choice(((1, 2), (1, 2, 3), (2, 3, 7), (9, 10)))
            self.agrees(oracle.night_of(source, row, 3, source.choice((2, 6)), source.randint(4, 6), 1))

    def test_four_parties(self):
        source = random.Random(23)
        for _ in range(12):
            self.agrees(oracle.night_of(source, source.choice(((1, 2), (3, 4, 5))), 4, 4, 2, 3))

    def test_one_party(self):
        for piles in ((), ((0, ("a",)),), ((5, ("a",)), (3, ("a",)))):
            for count in (0, 7):
                self.agrees(Night((1, 2, 4), (("a", count),), piles))

    def test_no_piles(self):
        for night in oracle.small_nights(24, 60):
            still = Night(night.divisors, night.parties, ())
            self.agrees(still)
            self.assertEqual(possible(still), results(still))

    def test_sizes_of_0(self):
        for night in oracle.small_nights(25, 40):
            still = Night(night.divisors, night.parties, ((0, night.names), (0, night.names[:1]), (0, night.names)))
            self.agrees(still)
            self.assertEqual(possible(still), results(still))

    def test_several_piles_with_the_same_names(self):
        parties = (("a", 4), ("b", 2), ("c", 0))
        one = Night((1, 2, 3), parties, ((5, ("a", "c")),))
        other = Night((1, 2, 3), parties, ((2, ("a", "c")), (0, ("a", "c")), (3, ("a", "c"))))
        self.agrees(one)
        self.agrees(other)
        self.assertEqual(possible(one), possible(other))

    def test_a_pile_with_one_name(self):
        parties = (("a", 9), ("b", 0))
        self.assertEqual(possible(Night((1, 2), parties, ((4, ("b",)),))), ((2, 0),))
        self.assertEqual(possible(Night((1, 2), parties, ((5, ("b",)),))), ((1, 1), (2, 0)))
        self.assertEqual(possible(Night((1, 2), parties, ((17, ("b",)),))), ((1, 1), (2, 0)))
        self.assertEqual(possible(Night((1, 2), parties, ((18, ("b",)),))), ((0, 2), (1, 1), (2, 0)))
        self.assertEqual(possible(Night((1, 2), parties, ((18, ("a",)),))), ((2, 0),))

    def test_a_pile_for_two_serves_only_once(self):
        parties = (("a", 6), ("b", 0), ("c", 0))
        self.assertEqual(possible(Night((1, 2, 3), parties, ((3, ("b", "c")),)))[0], (2, 0, 1))
        self.assertNotIn((1, 1, 1), possible(Night((1, 2, 3), parties, ((5, ("b", "c")),))))
        self.assertIn((1, 1, 1), possible(Night((1, 2, 3), parties, ((6, ("b", "c")),))))
        self.assertIn((1, 1, 1), possible(Night((1, 2, 3), parties, ((3, ("b",)), (3, ("c",))))))
        self.assertNotIn((1, 1, 1), possible(Night((1, 2, 3), parties, ((6, ("b",)), (2, ("a", "c"))))))
        self.assertIn((1, 1, 1), possible(Night((1, 2, 3), parties, ((3, ("a", "b", "c")), (2, ("b",)), (1, ("b", "c"))))))

    def test_ballots_where_one_pile_must_be_kept(self):
        night = Night((1, 2), (("a", 9), ("b", 0), ("c", 0), ("d", 0)), ((5, ("b", "c")), (5, ("b",)), (0, ("d",))))
        self.agrees(night.changed(("count", 0, 2)).changed(("size", 0, 1)).changed(("size", 1, 1)))
        night = Night((1, 2), (("b", 0), ("c", 0), ("a", 5)), ((5, ("b", "c")), (5, ("b",))))
        self.assertEqual(ballots_for(night, (1, 1, 0)), (((0, 5), (5,)), (5, 1)))

    def test_results_as_they_are_are_possible(self):
        for night in oracle.small_nights(26, 60) + oracle.great_nights(27, 12):
            found = possible(night)
            for table in results(night):
                self.assertIn(table, found)

    def test_great_nights(self):
        for seed, night in enumerate(oracle.great_nights(28, 12)):
            found = possible(night)
            self.assertEqual(found, tuple(table for table in night.tables() if is_possible(night, table)))
            for table in oracle.some_tables(night, seed, 30) + list(found[:10]):
                self.has_papers(night, table, table in found)

    def agrees_on_rooms(self, night, seed):
        """What is told possible is so by point 10, for tables on both sides of the border and any others."""
        found = possible(night)
        source = random.Random(seed)
        near = oracle.neighbours(source.sample(found, min(len(found), 6)))
        for table in source.sample(near, min(len(near), 25)) + oracle.some_tables(night, seed, 10):
            can = oracle.is_within_rooms(night, table)
            self.assertEqual([table in found, is_possible(night, table)], [can, can])
            self.has_papers(night, table, can)

    def test_divisors_close_together(self):
        for seed, night in enumerate(oracle.close_nights(41, 25)):
            self.agrees_on_rooms(night, seed)

    def test_tables_near_the_possible_ones_of_great_nights(self):
        for seed, night in enumerate(oracle.great_nights(42, 25)):
            self.agrees_on_rooms(night, seed)

    def test_all_tables_of_a_night_with_divisors_near_100(self):
        parties = (("a", 1), ("b", 2), ("c", 1), ("d", 3), ("e", 1), ("f", 2))
        night = Night(tuple(range(89, 101)), parties, ((5, ("a", "b")),))
        found = possible(night)
        self.assertEqual(found, tuple(table for table in night.tables() if is_possible(night, table)))
        self.agrees_on_rooms(night, 43)
        self.agrees_on_rooms(Night((96, 97, 98, 99, 100), parties, ((5, ("a", "b")), (90, ("c", "f")))), 44)

    def test_all_ballots_of_small_nights_with_divisors_near_100(self):
        source = random.Random(45)
        for _ in range(30):
            seats = source.randint(2, 5)
            row = tuple(range(101 - seats, 101))
            self.agrees(oracle.night_of(source, row, source.randint(2, 3), 3, source.randint(1, 3), 3))

    def test_the_greatest_nights(self):
        for seed, most_left in enumerate((10 ** 6, 10 ** 4, 3)):
            night = greatest_night(seed, most_left)
            found = possible(night)
            self.assertEqual(list(found), sorted(set(found)))
            source = random.Random(seed)
            told = set(found)
            for table in source.sample(night.tables(), 150) + source.sample(found, min(len(found), 50)):
                self.has_papers(night, table, table in told)
                self.assertIs(is_possible(night, table), table in told)

    def test_where_all_tables_are_possible(self):
        night = Night(tuple(range(1, 13)), tuple((name, 0) for name in NAMES), ((10 ** 6, NAMES),) * 6)
        self.assertEqual(possible(night), night.tables())
        self.assertEqual(ballots_for(night, (12, 0, 0, 0, 0, 0))[1], (0, 1))

    def test_bars_without_steps_bar_nothing(self):
        for night in oracle.small_nights(29, 60):
            for table in night.tables():
                found = barring(night, table)
                if found:
                    self.assertGreater(len(found[0]), 0)

    def test_names_in_bars_are_ascending(self):
        night = Night((1, 2), (("z", 9), ("y", 0), ("b", 0), ("a", 0)), ((17, ("y", "b", "a")),))
        self.bars(night, (0, 1, 1, 0), barring(night, (0, 1, 1, 0)))
        self.assertEqual(barring(night, (0, 1, 1, 0)), ((("z", (9, 1)),), ("b", "y")))

    def test_by_hand(self):
        night = sample()
        self.assertEqual(possible(night), ((1, 1, 1), (1, 2, 0), (2, 1, 0)))
        self.assertEqual(barring(night, (2, 0, 1)), ((("blue", (30, 1)),), ("red",)))
        self.assertEqual(ballots_for(night, (1, 1, 1)), (((0, 7),), (25, 1)))

    def test_by_name_and_again(self):
        night = sample()
        for _ in range(2):
            self.assertEqual(possible(night=night), ((1, 1, 1), (1, 2, 0), (2, 1, 0)))
            self.assertIs(is_possible(table=(2, 0, 1), night=night), False)
            self.assertEqual(ballots_for(table=(1, 2, 0), night=night), (((20, 0),), (25, 1)))
            self.assertEqual(barring(table=(2, 0, 1), night=night), ((("blue", (30, 1)),), ("red",)))
        self.assertEqual(night, sample())
