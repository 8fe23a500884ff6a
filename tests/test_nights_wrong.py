import unittest

from restballots.errors import InvalidDivisors, InvalidParties, InvalidPiles
from restballots.nights import Night
from tests.samples import DIVISORS, PARTIES, PILES, SIX_PARTIES, SIX_PILES, Agreeing, CloseTest, odd_values, sample

GOOD = ("a", 1)
SEVEN_PARTIES = SIX_PARTIES + (("g", 6),)
PILE = (3, ("red", "gold"))
WRONG_COUNTS = [value for value in odd_values()] + [10 ** 6 + 1, -1, 10 ** 39, "1", (1,), "", [1]]


class DivisorsTest(CloseTest):
    def assert_wrong(self, divisors):
        self.raises_given(InvalidDivisors, divisors, Night, divisors, PARTIES, PILES)
        self.raises_given(InvalidDivisors, divisors, Night, divisors=divisors, parties=PARTIES)

    def test_number_of_divisors(self):
        for divisors in ((), tuple(range(1, 14)), tuple(range(1, 101))):
            self.assert_wrong(divisors)

    def test_bounds(self):
        for divisors in ((0,), (101,), (-1,), (0, 1), (1, 101), (-2, -1), (1, 2, 10 ** 39), (-5, 3, 4)):
            with self.subTest(divisors=divisors):
                self.assert_wrong(divisors)

    def test_not_ascending(self):
        for divisors in ((2, 1), (1, 1), (1, 2, 2), (1, 3, 2), (3, 3, 4), (1, 2, 3, 4, 5, 6, 7, 8, 9, 10, 12, 11), (100, 1)):
            with self.subTest(divisors=divisors):
                self.assert_wrong(divisors)

    def test_elements_of_other_kinds(self):
        for value in odd_values() + ["1", (1,), [1]]:
            with self.subTest(kind=type(value)):
                self.assert_wrong((value,))
                self.assert_wrong((1, value, 100))
                self.assert_wrong((value, 50))
                self.assert_wrong((1, value))

    def test_true_is_no_divisor(self):
        for divisors in ((True,), (True, 2), (False, 1)):
            self.assert_wrong(divisors)

    def test_no_tuples(self):
        for value in odd_values() + [1, "1 2 3", "divisors 1", [1, 2, 3], {1: 2}, {1, 2}, range(1, 3), b"12"]:
            with self.subTest(kind=type(value)):
                self.assert_wrong(value)

    def test_what_the_package_returns(self):
        self.assert_wrong(Night(DIVISORS, SIX_PARTIES).tables())
        self.assert_wrong(PARTIES)
        self.assert_wrong(str(sample()))

    def test_nothing_passed_is_changed(self):
        divisors = [3, 2, 1]
        self.assert_wrong(divisors)
        self.assertEqual(divisors, [3, 2, 1])

    def test_ahead_of_parties_and_piles(self):
        for parties in (PARTIES, (), None, ((),), SEVEN_PARTIES):
            for piles in (PILES, None, ((),)):
                self.raises_given(InvalidDivisors, None, Night, None, parties, piles)
                self.raises_given(InvalidDivisors, (), Night, piles=piles, parties=parties, divisors=())


class PartiesTest(CloseTest):
    def assert_index(self, index, parties):
        self.raises_index(InvalidParties, index, Night, DIVISORS, parties)
        self.raises_index(InvalidParties, index, Night, DIVISORS, parties=parties, piles=PILES)

    def assert_no_party(self, value):
        self.assert_index(0, (value,))
        self.assert_index(0, (value, GOOD))
        self.assert_index(1, (GOOD, value))
        self.assert_index(2, (("x", 0), ("y", 10 ** 6), value, ("z", 1)))
        self.assert_index(5, SIX_PARTIES[:5] + (value,))

    def test_no_tuples(self):
        for value in [[("a", 1)], [], "red", None, 5, {}, {"a": 1}, range(2), sample(), True, b"", InvalidPiles(0), Agreeing()]:
            with self.subTest(kind=type(value)):
                self.assert_index(None, value)

    def test_empty(self):
        self.assert_index(None, ())

    def test_elements_of_other_kinds(self):
        for value in odd_values() + ["a", 1, ["a", 1], "a1", ("a", 1, 1), ("a",), (), (1, "a"), (GOOD, GOOD), {"a": 1}]:
            with self.subTest(kind=type(value)):
                self.assert_no_party(value)

    def test_names(self):
        for name in ["", "A", "Red", "rEd", "reD", "1", "1a", "0red", "_", "_a", "a_b", "a-b", "a b", " a", "a ", "a\n", "\na",
                     "abcdefghi", "a" * 9, "a" * 8000, "a.", "a~", "~", "a{", "`", "@a", "a/", "a:"]:
            with self.subTest(name=name):
                self.assert_no_party((name, 1))

    def test_names_of_other_kinds(self):
        for value in odd_values() + [1, ("a",), ["a"]]:
            with self.subTest(kind=type(value)):
                self.assert_no_party((value, 1))

    def test_counts(self):
        for value in WRONG_COUNTS:
            with self.subTest(kind=type(value)):
                self.assert_no_party(("red", value))

    def test_name_of_one_ahead(self):
        self.assert_index(1, (("a", 1), ("a", 2)))
        self.assert_index(1, (("a", 1), ("a", 1)))
        self.assert_index(2, (("a", 1), ("b", 1), ("a", 2)))
        self.assert_index(2, (("a", 1), ("b", 1), ("b", 2), ("a", 1)))
        self.assert_index(5, SIX_PARTIES[:5] + (("c", 1),))

    def test_name_twice_and_another_wrong_one(self):
        self.assert_index(1, (("a", 1), ("a", 2), None))
        self.assert_index(1, (("a", 1), None, ("a", 2)))

    def test_seventh(self):
        self.assert_index(6, SEVEN_PARTIES)
        self.assert_index(6, SIX_PARTIES + (("a", 1),))
        self.assert_index(6, SEVEN_PARTIES + (None,))
        self.assert_index(6, SEVEN_PARTIES * 100)
        for value in odd_values():
            self.assert_index(6, SIX_PARTIES + (value,))

    def test_one_ahead_of_the_seventh(self):
        for at in range(6):
            self.assert_index(at, SIX_PARTIES[:at] + (None,) + SEVEN_PARTIES[at + 1:])
        self.assert_index(1, (("a", 1),) * 7)

    def test_what_the_package_returns(self):
        self.assert_index(0, Night(DIVISORS, SIX_PARTIES).tables())
        self.assert_index(0, DIVISORS)
        self.assert_index(0, PILES)

    def test_ahead_of_piles(self):
        for piles in (None, (), PILES, ((),), (None,) * 7):
            self.raises_index(InvalidParties, 1, Night, DIVISORS, (GOOD, GOOD), piles)
            self.raises_index(InvalidParties, None, Night, piles=piles, parties=(), divisors=DIVISORS)

    def test_nothing_passed_is_changed(self):
        parties = [("a", 1), ["a", 2]]
        self.assert_index(None, parties)
        self.assert_index(1, tuple(parties))
        self.assertEqual(parties, [("a", 1), ["a", 2]])


class PilesTest(CloseTest):
    def assert_index(self, index, piles):
        self.raises_index(InvalidPiles, index, Night, DIVISORS, PARTIES, piles)
        self.raises_index(InvalidPiles, index, Night, piles=piles, parties=PARTIES, divisors=DIVISORS)

    def assert_no_pile(self, value):
        self.assert_index(0, (value,))
        self.assert_index(0, (value, PILE))
        self.assert_index(1, (PILE, value))
        self.assert_index(2, (PILE, PILE, value, PILE))
        self.assert_index(5, (PILE,) * 5 + (value,))

    def test_no_tuples(self):
        for value in [[PILE], [], "red", None, 5, {}, {3: ("red",)}, range(0), sample(), False, b"", InvalidPiles(0), Agreeing()]:
            with self.subTest(kind=type(value)):
                self.assert_index(None, value)

    def test_elements_of_other_kinds(self):
        wrong = ["red", 3, [3, ("red",)], (3,), (), (3, ("red",), 0), (("red",), 3), ("red", 3), (3, 3), {3: ("red",)}]
        for value in odd_values() + wrong:
            with self.subTest(kind=type(value)):
                self.assert_no_pile(value)

    def test_sizes(self):
        for value in WRONG_COUNTS:
            with self.subTest(kind=type(value)):
                self.assert_no_pile((value, ("red",)))

    def test_names(self):
        wrong = [
            (), ("red", "red"), ("red", "blue", "blue"), ("red", "gold", "red"), ("blue", "red"), ("gold", "blue"),
            ("gold", "blue", "red"), ("red", "gold", "blue"), ("green",), ("red", "green"), ("green", "red"), ("Red",),
            ("red", "blue", "gold", "green"), ("re",), ("redd",), ("red ",), ("r", "e", "d"), ("",), ("red", ""),
            ["red"], ["red", "blue"], [], "red", "", b"red", {"red": 1}, {"red"}, None, 3, (("red",),), (("red", "blue"),),
            ("red", None), ("red", 1), (1,), (True,), (b"red",), ("red", ["blue"]), ("red",) * 1000,
            ("red", "blue", "gold", "red"), ("red", "blue", "gold", "gold"), (Agreeing(), "blue"), ("red", Agreeing()),
        ]
        for names in wrong + odd_values():
            with self.subTest(kind=type(names)):
                self.assert_no_pile((3, names))

    def test_names_of_other_kinds(self):
        for value in odd_values():
            with self.subTest(kind=type(value)):
                self.assert_no_pile((3, (value,)))
                self.assert_no_pile((3, ("red", value)))
                self.assert_no_pile((3, (value, "gold")))

    def test_seventh(self):
        self.assert_index(6, (PILE,) * 7)
        self.assert_index(6, (PILE,) * 700)
        self.assert_index(6, (PILE,) * 7 + (None,))
        for value in odd_values():
            self.assert_index(6, (PILE,) * 6 + (value,))

    def test_one_ahead_of_the_seventh(self):
        for at in range(6):
            self.assert_index(at, (PILE,) * at + (None,) + (PILE,) * (6 - at))

    def test_the_first_of_several_wrong_ones(self):
        self.assert_index(1, (PILE, (3, ()), (-1, ("red",)), PILE))

    def test_what_the_package_returns(self):
        self.assert_index(0, Night(DIVISORS, SIX_PARTIES).tables())
        self.assert_index(0, PARTIES)
        self.raises_index(InvalidPiles, 0, Night, DIVISORS, PARTIES, SIX_PILES)

    def test_piles_of_other_parties(self):
        self.raises_index(InvalidPiles, 0, Night, DIVISORS, SIX_PARTIES, PILES)
        self.raises_index(InvalidPiles, 0, Night, DIVISORS, (("blue", 1), ("red", 1)), ((3, ("red", "blue")),))

    def test_nothing_passed_is_changed(self):
        names = ["red"]
        self.assert_index(0, ((3, names),))
        self.assertEqual(names, ["red"])


if __name__ == "__main__":
    unittest.main()
