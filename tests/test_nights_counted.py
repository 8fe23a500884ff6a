import unittest

from restballots.errors import InvalidCounts, InvalidIndex
from restballots.nights import Night
from tests.samples import DIVISORS, PARTIES, CloseTest, odd_values, sample

PILES = ((20, ("blue", "gold")), (5, ("red",)), (9, ("red", "blue", "gold")), (3, ("red", "gold")))


def night():
    return Night(DIVISORS, PARTIES, PILES)


class CountedTest(CloseTest):
    def assert_counted(self, index, ballots, counts):
        begun = night()
        text = str(begun)
        parties = tuple(zip(("red", "blue", "gold"), counts))
        piles = tuple(pile for at, pile in enumerate(PILES) if at != index)
        for behind in (begun.counted(index, ballots), begun.counted(index=index, ballots=ballots), begun.counted(index, ballots=ballots)):
            with self.subTest(index=index, ballots=ballots):
                self.assertIs(type(behind), Night)
                self.assertEqual((behind.divisors, behind.parties, behind.piles), (DIVISORS, parties, piles))
                self.assertEqual(behind, Night(DIVISORS, parties, piles))
                self.assertEqual((str(begun), begun.parties, begun.piles), (text, PARTIES, PILES))

    def assert_wrong(self, index, ballots, begun=None):
        begun = begun or night()
        text = str(begun)
        self.raises_given(InvalidCounts, ballots, begun.counted, index, ballots)
        self.raises_given(InvalidCounts, ballots, begun.counted, ballots=ballots, index=index)
        self.assertEqual(str(begun), text)

    def assert_no_index(self, index, ballots, begun=None):
        begun = begun or night()
        text = str(begun)
        self.raises_given(InvalidIndex, index, begun.counted, index, ballots)
        self.raises_given(InvalidIndex, index, begun.counted, ballots=ballots, index=index)
        self.assertEqual(str(begun), text)

    def test_none(self):
        self.assert_counted(0, (0, 0), (50, 30, 18))
        self.assert_counted(1, (0,), (50, 30, 18))
        self.assert_counted(2, (0, 0, 0), (50, 30, 18))

    def test_all(self):
        self.assert_counted(0, (20, 0), (50, 50, 18))
        self.assert_counted(0, (0, 20), (50, 30, 38))
        self.assert_counted(0, (7, 13), (50, 37, 31))
        self.assert_counted(1, (5,), (55, 30, 18))
        self.assert_counted(2, (2, 3, 4), (52, 33, 22))
        self.assert_counted(3, (1, 2), (51, 30, 20))

    def test_some(self):
        self.assert_counted(0, (4, 15), (50, 34, 33))
        self.assert_counted(1, (1,), (51, 30, 18))
        self.assert_counted(2, (0, 8, 0), (50, 38, 18))
        self.assert_counted(3, (0, 1), (50, 30, 19))

    def test_one_too_many(self):
        for index, ballots in ((0, (21, 0)), (0, (0, 21)), (0, (10, 11)), (1, (6,)), (2, (3, 3, 4)), (3, (2, 2))):
            self.assert_wrong(index, ballots)

    def test_far_too_many(self):
        for ballots in ((10 ** 6, 10 ** 6), (10 ** 39, 0), (0, 10 ** 39)):
            self.assert_wrong(0, ballots)

    def test_negative(self):
        for index, ballots in ((0, (-1, 5)), (0, (5, -1)), (0, (-1, -1)), (0, (-1, 21)), (1, (-1,)), (2, (0, -5, 5)), (0, (-1, 1))):
            self.assert_wrong(index, ballots)

    def test_too_few_and_too_many_numbers(self):
        for index, ballots in ((0, ()), (0, (5,)), (0, (5, 5, 5)), (0, (0, 0, 0)), (1, ()), (1, (1, 1)), (2, (1, 1)), (2, (1, 1, 1, 1))):
            self.assert_wrong(index, ballots)
        self.assert_wrong(0, (0,) * 5000)

    def test_no_tuples(self):
        for index, ballots in ((0, [1, 1]), (1, [1]), (0, "11"), (0, {1: 1, 2: 2}), (0, {1, 2}), (0, range(2)), (1, 1), (1, "1"), (0, b"12")):
            self.assert_wrong(index, ballots)

    def test_ballots_of_any_kind(self):
        for value in odd_values():
            with self.subTest(kind=type(value)):
                for index in range(4):
                    self.assert_wrong(index, value)

    def test_numbers_of_any_kind(self):
        for value in odd_values() + ["1", (1,), [1]]:
            with self.subTest(kind=type(value)):
                self.assert_wrong(0, (value, 1))
                self.assert_wrong(0, (1, value))
                self.assert_wrong(1, (value,))

    def test_a_count_that_would_be_too_great(self):
        full = Night((1,), (("a", 10 ** 6 - 2), ("b", 10 ** 6)), ((5, ("a", "b")), (3, ("a",))))
        self.assert_wrong(0, (3, 0), full)
        self.assert_wrong(0, (0, 1), full)
        self.assert_wrong(0, (2, 1), full)
        self.assert_wrong(1, (3,), full)
        self.assertEqual(full.counted(0, (2, 0)).parties, (("a", 10 ** 6), ("b", 10 ** 6)))
        self.assertEqual(full.counted(1, (2,)).parties, (("a", 10 ** 6), ("b", 10 ** 6)))
        most = Night((1,), (("a", 0),), ((10 ** 6, ("a",)),))
        self.assertEqual(most.counted(0, (10 ** 6,)).parties, (("a", 10 ** 6),))

    def test_indexes(self):
        for index in odd_values() + [4, 5, -2, -4, 10 ** 39, "0", (0,), [0], "red"]:
            with self.subTest(kind=type(index)):
                self.assert_no_index(index, (1, 1))
                self.assert_no_index(index, (1,))

    def test_true_and_false_are_no_indexes(self):
        self.assert_no_index(True, (1,))
        self.assert_no_index(False, (1, 1))

    def test_the_number_of_piles(self):
        for many in range(5):
            self.assert_no_index(many, (1,), Night(DIVISORS, PARTIES, PILES[:many]))
            self.assert_no_index(-1, (1,), Night(DIVISORS, PARTIES, PILES[:many]))

    def test_index_ahead_of_ballots(self):
        for ballots in ((), None, [1], (-1,), (10 ** 9, 0)):
            self.assert_no_index(-1, ballots)
            self.assert_no_index(4, ballots)

    def test_the_other_piles_stay_in_their_order(self):
        piles = tuple((size, ("a",)) for size in (3, 1, 5, 1, 2, 4))
        begun = Night((1,), (("a", 0),), piles)
        for index in range(6):
            self.assertEqual(begun.counted(index, (0,)).piles, piles[:index] + piles[index + 1:])

    def test_one_behind_another(self):
        behind = night().counted(0, (4, 16)).counted(0, (5,)).counted(1, (0, 3)).counted(0, (1, 1, 1))
        self.assertEqual(str(behind), "divisors 1 2 3\nparty red 56\nparty blue 35\nparty gold 38")
        self.assert_no_index(0, (), behind)

    def test_nothing_passed_is_changed(self):
        ballots = [1, 1]
        self.assert_wrong(0, ballots)
        self.assertEqual(ballots, [1, 1])

    def test_equal_arguments_give_equal_results(self):
        self.assertEqual(sample().counted(0, (1, 2)), sample().counted(0, (1, 2)))


if __name__ == "__main__":
    unittest.main()
