import unittest

from restballots.errors import InvalidText
from restballots.nights import Night
from tests.samples import PARTIES, SIX_PARTIES, SIX_PILES, TEXT, CloseTest, odd_values, sample

FIRST = "divisors 1 2 3"
PARTY = "party a 5"
SMALL = "divisors 1 12 13\nparty a 5\nparty b 7\npile 4 a b"
PAIRS = [
    (((1, 2, 3), PARTIES, ((20, ("blue", "gold")),)), TEXT),
    (((1,), (("a", 0),), ()), "divisors 1\nparty a 0"),
    (((100,), (("a", 10 ** 6),), ((0, ("a",)), (10 ** 6, ("a",)))), "divisors 100\nparty a 1000000\npile 0 a\npile 1000000 a"),
    (((1, 2), (("b", 7), ("a", 10)), ((3, ("b", "a")), (3, ("b", "a")))), "divisors 1 2\nparty b 7\nparty a 10\n"
     "pile 3 b a\npile 3 b a"),
    (((1, 3), (("party", 1), ("pile", 2), ("divisors", 3)), ((4, ("party", "pile", "divisors")), (5, ("pile",)))),
     "divisors 1 3\nparty party 1\nparty pile 2\nparty divisors 3\npile 4 party pile divisors\npile 5 pile"),
    (((10, 20), (("a1b2c3d4", 90),), ()), "divisors 10 20\nparty a1b2c3d4 90"),
    ((tuple(range(1, 13)), SIX_PARTIES, SIX_PILES), "divisors 1 2 3 4 5 6 7 8 9 10 11 12\nparty a 0\nparty b 1\nparty c 2\n"
     "party d 3\nparty e 4\nparty f 5\npile 0 a f\npile 1 a f\npile 2 a f\npile 3 a f\npile 4 a f\npile 5 a f"),
]


def rows(*told):
    return "\n".join(told)


class BothWaysTest(CloseTest):
    def test_str(self):
        for parts, text in PAIRS:
            with self.subTest(text=text):
                self.assertIs(type(str(Night(*parts))), str)
                self.assertEqual(str(Night(*parts)), text)

    def test_read(self):
        for (divisors, parties, piles), text in PAIRS:
            for night in (Night.read(text), Night.read(text=text), sample().read(text)):
                with self.subTest(text=text):
                    self.assertIs(type(night), Night)
                    self.assertEqual((night.divisors, night.parties, night.piles), (divisors, parties, piles))
                    self.assertEqual(str(night), text)
                    self.assertEqual(night, Night(divisors, parties, piles))
                    numbers = night.divisors + tuple(count for _, count in night.parties)
                    self.assertEqual({type(number) for number in numbers}, {int})

    def test_read_gives_tuples(self):
        night = Night.read(TEXT)
        for value in (night.divisors, night.parties, night.parties[0], night.piles, night.piles[0], night.piles[0][1]):
            self.assertIs(type(value), tuple)


class WrongTextTest(CloseTest):
    def assert_wrong(self, text):
        with self.subTest(text=text):
            self.raises_given(InvalidText, text, Night.read, text)
            self.raises_given(InvalidText, text, Night.read, text=text)

    def test_the_small_text_is_right(self):
        self.assertEqual(Night.read(SMALL).piles, ((4, ("a", "b")),))

    def test_spaces(self):
        for at, sign in enumerate(SMALL):
            self.assert_wrong(SMALL[:at] + " " + SMALL[at:])
            if sign == " ":
                self.assert_wrong(SMALL[:at] + SMALL[at + 1:])
        self.assert_wrong(SMALL + " ")
        self.assert_wrong(" " + SMALL)
        self.assert_wrong("divisors 1 2 3\nparty a 5 \nparty b 7")
        self.assert_wrong("divisors 1 2 3 \nparty a 5")

    def test_newlines(self):
        for at, sign in enumerate(SMALL):
            self.assert_wrong(SMALL[:at] + "\n" + SMALL[at:])
            if sign == "\n":
                self.assert_wrong(SMALL[:at] + SMALL[at + 1:])
                self.assert_wrong(SMALL[:at] + " " + SMALL[at + 1:])
        self.assert_wrong(SMALL + "\n")
        self.assert_wrong(SMALL + "\n\n")
        self.assert_wrong("\n")

    def test_empty(self):
        for text in ("", " ", "\n", "\n\n"):
            self.assert_wrong(text)

    def test_needless_zeros(self):
        for number in ("00", "01", "05", "0005", "000000", "0000000", "00000005", "0" * 8000):
            self.assert_wrong(rows(f"divisors {number}", PARTY))
            self.assert_wrong(rows(f"divisors {number} 9", PARTY))
            self.assert_wrong(rows(FIRST, f"party a {number}"))
            self.assert_wrong(rows(FIRST, PARTY, f"pile {number} a"))
        self.assert_wrong(rows("divisors 1 02 3", PARTY))

    def test_what_is_no_number(self):
        wrong = ["+1", "-1", "-0", "+0", "1.", "1.0", "1e1", "0x1", "1_0", "1,0", "", "a", "one", "True", "None", "1a", "a1", "(1)",
                 "'1'", "--1", "1-", "1+1", "~1", "9" * 8, "9" * 40, "1" * 7900]
        for number in wrong:
            self.assert_wrong(rows(f"divisors {number}", PARTY))
            self.assert_wrong(rows(f"divisors {number} 90", PARTY))
            self.assert_wrong(rows(f"divisors 1 {number}", PARTY))
            self.assert_wrong(rows(FIRST, f"party a {number}"))
            self.assert_wrong(rows(FIRST, PARTY, f"pile {number} a"))

    def test_rows_missing(self):
        for text in (FIRST, PARTY, "pile 4 a", rows(FIRST, "pile 4 a"), rows(PARTY, "party b 7"), rows(PARTY, "pile 4 a")):
            self.assert_wrong(text)

    def test_rows_twice(self):
        for text in (rows(FIRST, FIRST, PARTY), rows(FIRST, PARTY, FIRST), rows(FIRST, PARTY, PARTY), rows(SMALL, SMALL)):
            self.assert_wrong(text)
        self.assert_wrong(rows(FIRST, PARTY, "party a 6"))

    def test_rows_in_another_order(self):
        for text in (rows(PARTY, FIRST), rows(FIRST, "pile 4 a", PARTY), rows(FIRST, PARTY, "pile 4 a", "party b 7"),
                     rows("pile 4 a", FIRST, PARTY), rows(PARTY, "pile 4 a", FIRST)):
            self.assert_wrong(text)

    def test_first_words(self):
        for text in (rows("divisor 1 2", PARTY), rows("Divisors 1 2", PARTY), rows("1 2", PARTY), rows(FIRST, "a 5"),
                     rows(FIRST, "Party a 5"), rows(FIRST, "parties a 5"), rows(FIRST, PARTY, "piles 4 a"), rows(FIRST, PARTY, "4 a"),
                     rows(FIRST, PARTY, "Pile 4 a"), rows(FIRST, PARTY, "# end"), rows("# night", FIRST, PARTY)):
            self.assert_wrong(text)

    def test_words_too_few(self):
        for text in (rows("divisors", PARTY), rows("divisors ", PARTY), rows(FIRST, "party"), rows(FIRST, "party a"),
                     rows(FIRST, "party 5"), rows(FIRST, PARTY, "pile"), rows(FIRST, PARTY, "pile 4"), rows(FIRST, PARTY, "pile a"),
                     rows(FIRST, "party a "), rows(FIRST, PARTY, "pile 4 ")):
            self.assert_wrong(text)

    def test_words_too_many(self):
        for text in (rows(FIRST, "party a 5 6"), rows(FIRST, "party a b 5"), rows(FIRST, "party a 5 x"), rows(FIRST, PARTY, "pile 4 4 a"),
                     rows(FIRST, PARTY, "pile 4 a a"), rows(FIRST, PARTY, "pile 4 a b"), rows("divisors 1 2 x", PARTY)):
            self.assert_wrong(text)

    def test_numbers_beyond_the_limits(self):
        for text in (rows("divisors 0", PARTY), rows("divisors 101", PARTY), rows("divisors 2 1", PARTY), rows("divisors 2 2", PARTY),
                     rows("divisors " + " ".join(str(k) for k in range(1, 14)), PARTY), rows(FIRST, "party a 1000001"),
                     rows(FIRST, PARTY, "pile 1000001 a"), rows(FIRST, "party a 9999999"), rows(FIRST, "party a 10000000")):
            self.assert_wrong(text)

    def test_too_many_rows(self):
        parties = [f"party {name} 1" for name in "abcdefg"]
        self.assert_wrong(rows(FIRST, *parties))
        self.assertEqual(len(Night.read(rows(FIRST, *parties[:6]))), 6)
        self.assert_wrong(rows(FIRST, PARTY, *["pile 1 a"] * 7))
        self.assertEqual(len(Night.read(rows(FIRST, PARTY, *["pile 1 a"] * 6)).piles), 6)
        self.assert_wrong("\n" * 8000)

    def test_names(self):
        for name in ("A", "1a", "abcdefghi", "a_b", "a-b", "5"):
            self.assert_wrong(rows(FIRST, f"party {name} 5"))
        for names in ("b a", "a a", "c", "a c", "A", "a b a"):
            self.assert_wrong(rows(FIRST, PARTY, "party b 5", f"pile 4 {names}"))

    def test_no_strings(self):
        for value in odd_values() + [0, 5, TEXT.encode(), [TEXT], (TEXT,), TEXT.split("\n"), {TEXT: 1}, sample().tables()]:
            with self.subTest(kind=type(value)):
                self.raises_given(InvalidText, value, Night.read, value)
                self.raises_given(InvalidText, value, Night.read, text=value)

    def test_a_night_is_no_text(self):
        night = sample()
        self.raises_given(InvalidText, night, Night.read, night)


if __name__ == "__main__":
    unittest.main()
