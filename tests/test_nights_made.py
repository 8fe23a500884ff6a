import itertools
import unittest

from restballots.nights import Night
from tests.samples import DIVISORS, PARTIES, PILES, SIX_PARTIES, SIX_PILES, TEXT, sample

TWELVE = (1, 2, 3, 5, 8, 13, 21, 34, 55, 89, 99, 100)


class MadeTest(unittest.TestCase):
    def assert_made(self, divisors, parties, piles):
        """Made in every way that the signature allows, the night has just these parts."""
        nights = [
            Night(divisors, parties, piles), Night(divisors=divisors, parties=parties, piles=piles),
            Night(divisors, parties, piles=piles), Night(piles=piles, parties=parties, divisors=divisors),
        ]
        if piles == ():
            nights += [Night(divisors, parties), Night(divisors=divisors, parties=parties)]
        for night in nights:
            self.assertIs(type(night), Night)
            self.assertEqual((night.divisors, night.parties, night.piles), (divisors, parties, piles))
            self.assertEqual(night.names, tuple(name for name, _ in parties))
            self.assertIs(type(night.names), tuple)
            self.assertEqual((night.seats, len(night)), (len(divisors), len(parties)))
            self.assertIs(bool(night), True)
            self.assertEqual(Night.read(str(night)).parties, parties)

    def test_divisors(self):
        for divisors in ((1,), (100,), (1, 2), (99, 100), (1, 100), TWELVE, tuple(range(1, 13)), tuple(range(89, 101))):
            with self.subTest(divisors=divisors):
                self.assert_made(divisors, PARTIES, PILES)

    def test_parties(self):
        for many in range(1, 7):
            with self.subTest(many=many):
                self.assert_made(DIVISORS, SIX_PARTIES[:many], ())

    def test_piles(self):
        for many in range(7):
            with self.subTest(many=many):
                self.assert_made(DIVISORS, SIX_PARTIES, SIX_PILES[:many])

    def test_equal_piles_may_stand_side_by_side(self):
        self.assert_made(DIVISORS, PARTIES, PILES * 6)

    def test_any_names_of_a_pile_in_the_order_of_the_parties(self):
        names = ("red", "blue", "gold")
        for many in (1, 2, 3):
            for group in itertools.combinations(names, many):
                with self.subTest(group=group):
                    self.assert_made(DIVISORS, PARTIES, ((3, group),))

    def test_the_order_is_that_of_the_parties_not_of_the_letters(self):
        self.assert_made(DIVISORS, (("z", 1), ("m", 1), ("a", 1)), ((3, ("z", "a")), (3, ("z", "m", "a")), (1, ("m", "a"))))

    def test_counts_and_sizes(self):
        for number in (0, 1, 999999, 1000000):
            with self.subTest(number=number):
                self.assert_made(DIVISORS, (("a", number), ("b", 10 ** 6 - number)), ((number, ("a",)), (number, ("b",))))

    def test_names(self):
        for name in ("a", "z", "abcdefgh", "zyxwvuts", "a1234567", "a0", "z9", "a9b", "divisors", "party", "pile"):
            with self.subTest(name=name):
                self.assert_made(DIVISORS, ((name, 3),), ((2, (name,)),))

    def test_names_that_begin_alike_are_different(self):
        self.assert_made(DIVISORS, (("a", 1), ("a1", 1), ("aa", 1), ("a11", 1)), ((1, ("a", "a11")),))

    def test_the_parts_are_what_was_passed(self):
        night = sample()
        self.assertIs(night.divisors, DIVISORS)
        self.assertIs(night.parties, PARTIES)
        self.assertIs(night.piles, PILES)

    def test_without_piles(self):
        self.assertEqual(Night(DIVISORS, PARTIES).piles, ())

    def test_truth(self):
        self.assertIs(bool(Night((1,), (("a", 0),))), True)
        self.assertIs(bool(sample()), True)

    def test_number_of_arguments(self):
        for arguments in ((), (DIVISORS,), (DIVISORS, PARTIES, PILES, ())):
            with self.subTest(many=len(arguments)), self.assertRaises(TypeError):
                Night(*arguments)

    def test_properties_cannot_be_set(self):
        for name in ("divisors", "parties", "piles", "names", "seats"):
            night = sample()
            with self.subTest(name=name):
                with self.assertRaises(AttributeError):
                    setattr(night, name, ())
                self.assertEqual(str(night), TEXT)

    def test_the_interface_is_defined_in_the_class(self):
        self.assertEqual(Night.__module__, "restballots.nights")
        for name in ("read", "changed", "counted", "tables", "divisors", "parties", "piles", "names", "seats"):
            self.assertIn(name, vars(Night))
        for name in ("__init__", "__len__", "__str__", "__eq__"):
            self.assertIn(name, vars(Night))
        for name in ("divisors", "parties", "piles", "names", "seats"):
            self.assertIsInstance(vars(Night)[name], property)
        self.assertIsInstance(vars(Night)["read"], classmethod)


if __name__ == "__main__":
    unittest.main()
