import itertools
import math
import unittest

from restballots.nights import Night
from tests.samples import SIX_PARTIES, SIX_PILES


def tables_of(seats, many):
    return Night(tuple(range(1, seats + 1)), SIX_PARTIES[:many]).tables()


class TablesTest(unittest.TestCase):
    def test_one_party(self):
        for seats in range(1, 13):
            self.assertEqual(tables_of(seats, 1), ((seats,),))

    def test_one_seat(self):
        self.assertEqual(tables_of(1, 2), ((0, 1), (1, 0)))
        self.assertEqual(tables_of(1, 3), ((0, 0, 1), (0, 1, 0), (1, 0, 0)))
        for many in range(1, 7):
            self.assertEqual(tables_of(1, many), tuple(sorted(set(itertools.permutations((1,) + (0,) * (many - 1))))))

    def test_by_hand(self):
        self.assertEqual(tables_of(2, 2), ((0, 2), (1, 1), (2, 0)))
        self.assertEqual(tables_of(2, 3), ((0, 0, 2), (0, 1, 1), (0, 2, 0), (1, 0, 1), (1, 1, 0), (2, 0, 0)))
        self.assertEqual(tables_of(3, 2), ((0, 3), (1, 2), (2, 1), (3, 0)))

    def test_all_small_ones(self):
        for seats, many in itertools.product(range(1, 7), range(1, 6)):
            told = tuple(row for row in itertools.product(range(seats + 1), repeat=many) if sum(row) == seats)
            self.assertEqual(tables_of(seats, many), told)

    def test_the_greatest_one(self):
        tables = tables_of(12, 6)
        self.assertIs(type(tables), tuple)
        self.assertEqual(len(tables), math.comb(17, 5))
        self.assertEqual([tables[0], tables[-1]], [(0, 0, 0, 0, 0, 12), (12, 0, 0, 0, 0, 0)])
        for table in tables:
            self.assertIs(type(table), tuple)
            self.assertEqual((len(table), sum(table)), (6, 12))
            self.assertTrue(all(type(own) is int and own >= 0 for own in table))
        self.assertTrue(all(low < high for low, high in zip(tables, tables[1:])))

    def test_counts_piles_names_and_divisors_are_nothing_to_them(self):
        told = tables_of(3, 3)
        for night in (Night((1, 2, 3), SIX_PARTIES[3:], ()), Night((7, 50, 100), (("z", 0), ("y", 10 ** 6), ("x", 0))),
                      Night((1, 3, 5), (("a", 9), ("b", 9), ("c", 9)), ((10 ** 6, ("a", "b", "c")), (0, ("a",))))):
            self.assertEqual(night.tables(), told)
        self.assertEqual(Night((1, 2), SIX_PARTIES, SIX_PILES).tables(), tables_of(2, 6))

    def test_the_same_each_time(self):
        night = Night((1, 2), SIX_PARTIES, SIX_PILES)
        self.assertEqual(night.tables(), night.tables())
        self.assertEqual(night, Night((1, 2), SIX_PARTIES, SIX_PILES))


if __name__ == "__main__":
    unittest.main()
