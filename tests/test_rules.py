import functools
import itertools
import random
from fractions import Fraction

from restballots.errors import BadValue, InvalidDivisors, InvalidNumber, OtherSeats
from restballots.rules import are_alike, favours, parting_counts, parting_pairs
from tests import oracle
from tests.samples import CloseTest, nested, odd_values, sample

SMALL_ROWS = {seats: list(itertools.combinations(range(1, 6), seats)) for seats in (1, 2, 3)}
OF_MANY = [parting_pairs, are_alike, parting_counts]


def some_rows(seed, many):
    """Pairs of rows of up to twelve divisors; some of them are multiples but for a divisor, or have parts in common."""
    source = random.Random(seed)
    found = []
    for _ in range(many):
        seats = source.choice([1, 2, 3, 4, 5, 7, 8, 11, 12])
        one = sorted(source.sample(range(1, 51), seats))
        other = [2 * divisor for divisor in one]
        kind = source.randrange(4)
        if kind == 0:
            other = sorted(source.sample(range(1, 101), seats))
        elif kind == 1:
            other[source.randrange(seats)] -= 1
        elif kind == 2:
            other[-1] = source.randint(other[-1], 100)
        found.append((tuple(one), tuple(other)))
    return found


def told_pairs(one, other, many):
    """Point 12, word by word."""
    seats = len(one)
    found = []
    for a in range(1, seats + 1):
        for b in range(a + 1, seats + 1):
            if (a + b == seats + 1 if many == 2 else a + b <= seats + 1):
                if Fraction(one[a - 1], one[b - 1]) != Fraction(other[a - 1], other[b - 1]):
                    found.append((a, b))
    return tuple(found)


@functools.lru_cache(maxsize=None)
def results(row, counts):
    return oracle.results(row, counts)


def seats_of_first(row, first, second):
    """The numbers of seats that the first one of two parties has in results."""
    seats = len(row)
    found = []
    for own in range(seats + 1):
        fewest = own == 0 or first * row[seats - own] >= second * row[own - 1]
        most = own == seats or second * row[own] >= first * row[seats - own - 1]
        if fewest and most:
            found.append(own)
    return found


def told_favours(one, other, most):
    for first in range(most + 1):
        for second in range(first + 1):
            here = seats_of_first(one, first, second)
            there = seats_of_first(other, first, second)
            if there[-1] < here[-1] or there[0] < here[0]:
                return False
    return True


class PartingTest(CloseTest):
    def agrees(self, one, other, many):
        told = told_pairs(one, other, many)
        found = parting_pairs(one, other, many)
        self.assertEqual(found, told)
        self.assertEqual({type(part) for part in (found, *found)}, {tuple})
        self.assertEqual(found, tuple(sorted(set(found))))
        self.assertIs(are_alike(one, other, many), told == ())
        self.parts(one, other, many, told == ())

    def parts(self, one, other, many, alike):
        paper = parting_counts(one, other, many)
        self.assertEqual(paper is None, alike)
        self.assertEqual(paper, parting_counts(one, other, many))
        if not alike:
            self.assertEqual([type(part) for part in (paper, *paper)], [tuple] * 3)
            counts, table = paper
            self.assertEqual([len(paper), len(counts), len(table), sum(table)], [2, many, many, len(one)])
            self.assertEqual({type(number) for number in counts + table}, {int})
            self.assertGreaterEqual(min(counts + table), 0)
            self.assertIs(oracle.is_result(one, counts, table) != oracle.is_result(other, counts, table), True)

    def test_all_small_rows(self):
        for rows in SMALL_ROWS.values():
            for one, other in itertools.product(rows, repeat=2):
                for many in range(2, 7):
                    self.agrees(one, other, many)

    def test_rows_of_up_to_twelve(self):
        for one, other in some_rows(51, 120):
            for many in range(2, 7):
                self.agrees(one, other, many)

    def test_one_seat(self):
        for one, other, many in ((1,), (1,), 2), ((3,), (100,), 6):
            self.assertEqual([parting_pairs(one, other, many), are_alike(one, other, many)], [(), True])
            self.assertIsNone(parting_counts(one, other, many))

    def test_two_seats(self):
        for many in range(2, 7):
            self.assertEqual(parting_pairs((1, 2), (1, 3), many), ((1, 2),))
            self.assertEqual(parting_pairs((1, 2), (50, 100), many), ())

    def test_a_row_and_its_multiple(self):
        for one in ((5,), (1, 2), (1, 3, 5), (2, 3, 7, 8), tuple(range(1, 13)), (1, 2, 4, 7, 11, 12, 13, 14, 15, 16, 17, 20)):
            for factor in (1, 2, 5):
                other = tuple(factor * divisor for divisor in one)
                for many in range(2, 7):
                    self.agrees(one, other, many)
                    self.assertIs(are_alike(one, other, many), True)
                    self.assertIs(are_alike(other, one, many), True)

    def test_rows_that_part_only_at_one_pair(self):
        for one, other, many, pair in [
            ((1, 2, 3), (1, 3, 5), 2, (1, 3)), ((2, 4, 6), (2, 4, 7), 3, (1, 3)), ((2, 4, 6, 8), (2, 5, 6, 8), 2, (2, 3)),
            ((2, 4, 6, 8), (2, 4, 6, 9), 2, (1, 4)), ((2, 4, 6, 8), (2, 4, 6, 9), 5, (1, 4)),
            ((4, 8, 12, 16, 20), (4, 8, 12, 17, 20), 2, (2, 4)), (tuple(range(1, 13)), tuple(range(1, 12)) + (13,), 2, (1, 12)),
            (tuple(range(1, 13)), tuple(range(1, 12)) + (13,), 6, (1, 12)),
            (tuple(range(2, 26, 2)), (2, 4, 6, 8, 10, 12, 15, 16, 18, 20, 22, 24), 2, (6, 7)),
        ]:
            self.assertEqual(parting_pairs(one, other, many), (pair,))
            self.agrees(one, other, many)
            self.agrees(other, one, many)

    def test_numbers_that_go_beyond_the_seats_are_nothing(self):
        one, other = (1, 2, 3, 4), (1, 2, 3, 5)
        self.assertEqual(parting_pairs(one, other, 3), ((1, 4),))
        one, other = (3, 6, 9, 10, 11), (3, 6, 9, 10, 12)
        self.assertEqual([parting_pairs(one, other, many) for many in (2, 3, 6)], [((1, 5),)] * 3)
        one, other = (3, 6, 9, 10, 11), (3, 6, 9, 12, 13)
        self.assertEqual(parting_pairs(one, other, 3), ((1, 4), (1, 5), (2, 4)))

    def test_alike_for_two_and_not_for_three(self):
        one, other = (1, 2, 3, 4, 5), (2, 4, 7, 8, 10)
        self.assertEqual([parting_pairs(one, other, 2), are_alike(one, other, 2)], [(), True])
        self.assertEqual([parting_pairs(one, other, 3), are_alike(one, other, 3)], [((1, 3), (2, 3)), False])
        for many in range(2, 7):
            self.agrees(one, other, many)

    def test_quotients_are_compared_exactly(self):
        self.assertEqual(parting_pairs((98, 99), (99, 100), 2), ((1, 2),))
        self.assertEqual(parting_pairs((33, 66, 99), (33, 66, 100), 3), ((1, 3),))
        self.agrees((97, 98, 99), (98, 99, 100), 4)

    def test_alike_exactly_if_all_small_counts_give_the_same(self):
        for rows in SMALL_ROWS.values():
            for many in (2, 3):
                every = list(itertools.product(range(6), repeat=many))
                told = {row: [results(row, counts) for counts in every] for row in rows}
                for one, other in itertools.product(rows, repeat=2):
                    self.assertIs(are_alike(one, other, many), told[one] == told[other])

    def test_by_name_and_again(self):
        for _ in range(2):
            self.assertEqual(parting_pairs(many=3, other=(1, 3, 5), one=(1, 2, 3)), ((1, 2), (1, 3)))
            self.assertIs(are_alike(many=4, other=(2, 4, 6), one=(1, 2, 3)), True)
            self.assertIsNone(parting_counts(many=2, other=(3, 6), one=(1, 2)))
            self.assertEqual(parting_counts(many=2, other=(1, 3), one=(1, 2)), parting_counts((1, 2), (1, 3), 2))
            self.assertIs(favours(other=(1, 2, 3), one=(1, 3, 5)), True)


class FavoursTest(CloseTest):
    def test_all_small_rows(self):
        for rows in SMALL_ROWS.values():
            for one, other in itertools.product(rows, repeat=2):
                self.assertIs(favours(one, other), told_favours(one, other, 6))

    def test_small_counts_by_all_prices(self):
        for seats in (1, 2, 3):
            for row in SMALL_ROWS[seats][::3]:
                for first, second in itertools.product(range(5), repeat=2):
                    told = [table[0] for table in results(row, (first, second))]
                    self.assertEqual(seats_of_first(row, first, second), told)

    def test_rows_of_up_to_twelve(self):
        for one, other in some_rows(52, 24):
            self.assertIs(favours(one, other), told_favours(one, other, 100))
            self.assertIs(favours(other, one), told_favours(other, one, 100))

    def test_a_row_beside_itself_and_rows_that_are_alike(self):
        for one in ((4,), (1, 2), (1, 3, 5), (7, 8, 9, 50), tuple(range(1, 13))):
            for factor in (1, 2):
                other = tuple(factor * divisor for divisor in one)
                self.assertEqual([favours(one, other), favours(other, one)], [True, True])
        self.assertEqual([favours((1, 2, 3, 4, 5), (2, 4, 7, 8, 10)), favours((2, 4, 7, 8, 10), (1, 2, 3, 4, 5))], [True, True])

    def test_one_seat(self):
        for one, other in itertools.product(((1,), (7,), (100,)), repeat=2):
            self.assertIs(favours(one, other), True)

    def test_neither(self):
        one, other = (2, 4, 6, 8), (2, 5, 6, 9)
        self.assertEqual([favours(one, other), favours(other, one)], [False, False])

    def test_only_a_tie_tells_it(self):
        self.assertEqual([favours((1, 2), (1, 3)), favours((1, 3), (1, 2))], [False, True])
        self.assertEqual([favours((99, 100), (98, 99)), favours((98, 99), (99, 100))], [False, True])


class WrongTest(CloseTest):
    def wrong_rows(self):
        return odd_values() + [
            (), [1, 2, 3], (2, 1), (1, 1), (0, 1), (1, 101), (1, "2"), ("1", "2"), "1 2 3", (True, 2), tuple(range(1, 14)),
            (1, None), (1, (2,)), (1, [2]), 5, 10 ** 39, (10 ** 39,), range(1, 4), {1: 2}, (1, nested(8)), str(sample()), sample().tables(),
        ]

    def test_one_and_other(self):
        for value in self.wrong_rows():
            for call in OF_MANY:
                for many in (2, 3, None):
                    self.raises_given(InvalidDivisors, value, call, value, (1, 2, 3), many)
                    self.raises_given(InvalidDivisors, value, call, (1, 2, 3), value, many)
                    self.raises_given(InvalidDivisors, value, call, many=many, other=(1, 2), one=value)
                    self.raises_given(InvalidDivisors, value, call, many=many, other=value, one=(1, 2))
            self.raises_given(InvalidDivisors, value, favours, value, (1, 2, 3))
            self.raises_given(InvalidDivisors, value, favours, (1, 2, 3), value)
            self.raises_given(InvalidDivisors, value, favours, other=value, one=(1, 2, 3))

    def test_the_first_one_due(self):
        one, other = [1], [2]
        for call in OF_MANY:
            self.raises_given(InvalidDivisors, one, call, one, other, None)
            self.raises_given(InvalidDivisors, other, call, (1,), other, None)
            self.raises_given(InvalidNumber, None, call, (1,), (1, 2), None)
        self.raises_given(InvalidDivisors, one, favours, one, other)

    def test_many(self):
        for value in odd_values() + [0, 1, 7, 8, -2, 10 ** 39, "2", (2,), [3], b"2"]:
            for call in OF_MANY:
                for other in ((1, 2), (1, 3), (1, 2, 3)):
                    self.raises_given(InvalidNumber, value, call, (1, 2), other, value)
                    self.raises_given(InvalidNumber, value, call, many=value, other=other, one=(1, 2))

    def test_other_seats(self):
        for one, other in (((1,), (1, 2)), ((1, 2), (1,)), ((1, 2, 3), (2, 4)), (tuple(range(1, 13)), (1,))):
            for call in OF_MANY:
                for many in range(2, 7):
                    self.raises_given(OtherSeats, other, call, one, other, many)
            self.raises_given(OtherSeats, other, favours, one, other)
            self.raises_given(OtherSeats, other, favours, other=other, one=one)
        with self.assertRaises(BadValue):
            favours((1,), (1, 2))

    def test_nothing_passed_is_changed(self):
        one, other = [1, 2], (1, 3)
        self.raises_given(InvalidDivisors, one, parting_counts, one, other, 2)
        parting_counts((1, 2), other, 3)
        self.assertEqual([one, other], [[1, 2], (1, 3)])
