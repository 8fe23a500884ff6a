import unittest

from restballots.errors import InvalidChange
from restballots.nights import Night
from tests.samples import PARTIES, TEXT, Agreeing, CloseTest, odd_values, sample

PILES = ((20, ("blue", "gold")), (5, ("red",)), (0, ("red", "gold")))
ASCENDING = (10, 20, 30)


def night():
    return Night(ASCENDING, PARTIES, PILES)


class ChangedTest(CloseTest):
    def assert_changed(self, change, divisors=ASCENDING, parties=PARTIES, piles=PILES):
        begun = night()
        text = str(begun)
        for behind in (begun.changed(change), begun.changed(change=change)):
            with self.subTest(change=change):
                self.assertIs(type(behind), Night)
                self.assertEqual((behind.divisors, behind.parties, behind.piles), (divisors, parties, piles))
                self.assertEqual(behind, Night(divisors, parties, piles))
                self.assertEqual(str(behind), str(Night(divisors, parties, piles)))
                self.assertEqual((str(begun), begun.divisors, begun.parties, begun.piles), (text, ASCENDING, PARTIES, PILES))

    def assert_wrong(self, change, begun=None):
        begun = begun or night()
        text = str(begun)
        self.raises_given(InvalidChange, change, begun.changed, change)
        self.raises_given(InvalidChange, change, begun.changed, change=change)
        self.assertEqual(str(begun), text)
        self.assertEqual(begun, Night.read(text))

    def test_count(self):
        for value in (0, 1, 50, 999999, 1000000):
            self.assert_changed(("count", 0, value), parties=(("red", value), ("blue", 30), ("gold", 18)))
            self.assert_changed(("count", 1, value), parties=(("red", 50), ("blue", value), ("gold", 18)))
            self.assert_changed(("count", 2, value), parties=(("red", 50), ("blue", 30), ("gold", value)))

    def test_size(self):
        for value in (0, 5, 20, 999999, 1000000):
            self.assert_changed(("size", 0, value), piles=((value, ("blue", "gold")), (5, ("red",)), (0, ("red", "gold"))))
            self.assert_changed(("size", 1, value), piles=((20, ("blue", "gold")), (value, ("red",)), (0, ("red", "gold"))))
            self.assert_changed(("size", 2, value), piles=((20, ("blue", "gold")), (5, ("red",)), (value, ("red", "gold"))))

    def test_divisor(self):
        for value in (1, 10, 19):
            self.assert_changed(("divisor", 0, value), divisors=(value, 20, 30))
        for value in (11, 20, 29):
            self.assert_changed(("divisor", 1, value), divisors=(10, value, 30))
        for value in (21, 30, 100):
            self.assert_changed(("divisor", 2, value), divisors=(10, 20, value))

    def test_one_of_each(self):
        small = Night((7,), (("a", 3),), ((2, ("a",)),))
        self.assertEqual(str(small.changed(("divisor", 0, 100))), "divisors 100\nparty a 3\npile 2 a")
        self.assertEqual(str(small.changed(("count", 0, 0))), "divisors 7\nparty a 0\npile 2 a")
        self.assertEqual(str(small.changed(("size", 0, 0))), "divisors 7\nparty a 3\npile 0 a")

    def test_changes_in_a_row(self):
        behind = night().changed(("count", 1, 7)).changed(("divisor", 2, 99)).changed(("size", 1, 6))
        self.assertEqual(str(behind), "divisors 10 20 99\nparty red 50\nparty blue 7\nparty gold 18\n"
                         "pile 20 blue gold\npile 6 red\npile 0 red gold")

    def test_numbers_beyond_the_bounds(self):
        for value in (-1, 10 ** 6 + 1, 10 ** 39, -(10 ** 39)):
            for index in range(3):
                self.assert_wrong(("count", index, value))
                self.assert_wrong(("size", index, value))
        for value in (-1, 0, 101, 10 ** 39):
            for index in range(3):
                self.assert_wrong(("divisor", index, value))

    def test_divisors_that_would_not_ascend(self):
        for change in (("divisor", 0, 20), ("divisor", 0, 21), ("divisor", 1, 10), ("divisor", 1, 9), ("divisor", 1, 30),
                       ("divisor", 1, 31), ("divisor", 2, 20), ("divisor", 2, 1)):
            self.assert_wrong(change)

    def test_values_of_other_kinds(self):
        for what in ("count", "size", "divisor"):
            for value in odd_values() + ["5", (5,), [5], ("red", 5), (20, ("red",))]:
                with self.subTest(what=what, kind=type(value)):
                    self.assert_wrong((what, 0, value))

    def test_indexes(self):
        for what in ("count", "size", "divisor"):
            for index in odd_values() + [3, 4, -2, -3, 10 ** 39, "0", (0,), [0], "red", PARTIES[0]]:
                with self.subTest(what=what, kind=type(index)):
                    self.assert_wrong((what, index, 15))

    def test_the_numbers_of_the_parts_differ(self):
        uneven = Night((1, 2, 3, 4), (("a", 1), ("b", 1)), ((3, ("a",)),))
        self.assert_wrong(("count", 2, 1), uneven)
        self.assert_wrong(("size", 1, 1), uneven)
        self.assert_wrong(("divisor", 4, 5), uneven)
        self.assertEqual(uneven.changed(("divisor", 3, 5)).divisors, (1, 2, 3, 5))
        self.assertEqual(uneven.changed(("count", 1, 5)).parties, (("a", 1), ("b", 5)))

    def test_without_piles(self):
        for index in (0, -1, 1):
            self.assert_wrong(("size", index, 1), Night((1,), (("a", 1),)))

    def test_words(self):
        words = ["", "counts", "Count", "COUNT", " count", "count ", "coun", "party", "pile", "divisors", "sizes", "name", "seat", b"count"]
        for word in words + odd_values() + [0, 1, ("count",), ["count"]]:
            with self.subTest(kind=type(word)):
                self.assert_wrong((word, 0, 5))

    def test_what_calls_itself_equal_to_a_word(self):
        self.assert_wrong((Agreeing(), 0, 5))
        self.assert_wrong(("count", Agreeing(), 5))

    def test_no_triples(self):
        wrong = [(), ("count",), ("count", 0), ("count", 0, 5, 5), ("count", 0, 5, None), ["count", 0, 5], [], "count", "count 0 5",
                 (("count", 0, 5),), ("count", (0, 5)), {"count": 0}, {"count", 0, 5}, 5, 0, {"count": 1, "a": 0, "b": 5}, "abc"]
        for change in wrong + odd_values():
            with self.subTest(kind=type(change)):
                self.assert_wrong(change)

    def test_what_the_package_returns(self):
        for value in (sample().tables(), sample().tables()[0], str(sample()), PARTIES, PARTIES[0], PILES):
            self.assert_wrong(value)

    def test_nothing_passed_is_changed(self):
        value = [5]
        self.assert_wrong(("count", 0, value))
        self.assertEqual(value, [5])

    def test_the_same_value_gives_an_equal_night(self):
        self.assertEqual(str(sample().changed(("count", 0, 50))), TEXT)


if __name__ == "__main__":
    unittest.main()
