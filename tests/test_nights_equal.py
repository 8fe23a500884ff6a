import unittest

from restballots.errors import InvalidIndex
from restballots.nights import Night
from tests.samples import DIVISORS, PARTIES, PILES, SIX_PARTIES, SIX_PILES, TEXT, Refusing, odd_values, sample

UNLIKE = [
    Night(DIVISORS, PARTIES), Night((1, 2, 4), PARTIES, PILES), Night((1, 2), PARTIES, PILES), Night((1, 2, 3, 4), PARTIES, PILES),
    Night(DIVISORS, (("red", 51), ("blue", 30), ("gold", 18)), PILES), Night(DIVISORS, PARTIES + (("green", 0),), PILES),
    Night(DIVISORS, (("blue", 30), ("red", 50), ("gold", 18)), PILES), Night(DIVISORS, PARTIES[1:], PILES),
    Night(DIVISORS, (("rot", 50), ("blue", 30), ("gold", 18)), PILES),
    Night(DIVISORS, PARTIES, ((21, ("blue", "gold")),)), Night(DIVISORS, PARTIES, ((20, ("red", "gold")),)),
    Night(DIVISORS, PARTIES, ((20, ("red", "blue", "gold")),)), Night(DIVISORS, PARTIES, PILES + PILES),
    Night(DIVISORS, PARTIES, ((0, ("red",)),) + PILES), Night(DIVISORS, PARTIES, PILES + ((0, ("red",)),)),
    Night(DIVISORS, SIX_PARTIES, SIX_PILES),
]


class EqualTest(unittest.TestCase):
    def assert_equal(self, one, other):
        self.assertIs(one == other, True)
        self.assertIs(other == one, True)
        self.assertIs(one != other, False)
        self.assertIs(other != one, False)

    def assert_unlike(self, one, other):
        self.assertIs(one == other, False)
        self.assertIs(other == one, False)
        self.assertIs(one != other, True)
        self.assertIs(other != one, True)

    def test_equal(self):
        night = sample()
        for other in (night, sample(), Night.read(TEXT), night.changed(("size", 0, 20)), Night.read(str(night)),
                      Night(divisors=(1, 2, 3), parties=tuple(list(PARTIES)), piles=((20, ("blue", "gold")),))):
            self.assert_equal(night, other)

    def test_unlike(self):
        for night in UNLIKE:
            with self.subTest(text=str(night)):
                self.assert_unlike(sample(), night)
                self.assert_equal(night, Night.read(str(night)))

    def test_unlike_among_each_other(self):
        for at, night in enumerate(UNLIKE):
            for other in UNLIKE[:at]:
                self.assert_unlike(night, other)

    def test_equal_without_piles_either_way(self):
        self.assert_equal(Night(DIVISORS, PARTIES), Night(DIVISORS, PARTIES, ()))

    def test_values_of_other_kinds(self):
        night = sample()
        others = [TEXT, (DIVISORS, PARTIES, PILES), DIVISORS, PARTIES, 3, len(night), None, True, Night, InvalidIndex(night), [night],
                  (night,), {"night": night}, [], (), object(), "", b"", set()]
        for value in others:
            with self.subTest(kind=type(value)):
                self.assert_unlike(night, value)

    def test_every_value_stands_beside_a_night(self):
        night = sample()
        for value in odd_values():
            self.assertIs(night == value, value.__class__ is Night)
            self.assertIs(night != value, value.__class__ is not Night)

    def test_a_value_that_cannot_be_compared(self):
        self.assertIs(sample() == Refusing(), False)

    def test_in(self):
        night = sample()
        for kept in ((night,), [night], (1, None, sample()), ["x", Night.read(TEXT)], ((), [], night)):
            self.assertIs(night in kept, True)
            self.assertIs(night not in kept, False)
        for kept in ((), [], (TEXT, 3, None), [TEXT, (night,)], tuple(UNLIKE), UNLIKE, [[night]]):
            self.assertIs(night in kept, False)
            self.assertIs(night not in kept, True)

    def test_other_values_in_nights(self):
        nights = (sample(), Night(DIVISORS, PARTIES))
        for value in (TEXT, None, 3, (), [], DIVISORS, InvalidIndex(0), object(), Night, UNLIKE[1]):
            self.assertIs(value in nights, False)
            self.assertIs(value in list(nights), False)
        self.assertEqual([nights.index(sample()), nights.count(Night(DIVISORS, PARTIES, ()))], [0, 1])


if __name__ == "__main__":
    unittest.main()
