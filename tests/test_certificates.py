import random

from restballots.blocs import seat_range
from restballots.certificates import certify_bloc, certify_far, certify_near, certify_rules, certify_table
from restballots.checker import accepts
from restballots.errors import InvalidBloc, InvalidDivisors, InvalidNumber, InvalidTable, NotANight, OtherSeats
from restballots.nights import Night
from restballots.possible import possible
from restballots.prices import distance, least_price
from restballots.rules import are_alike
from tests import oracle, papers
from tests.samples import DIVISORS, PARTIES, PILES, TEXT, CloseTest, odd_values, sample

NAMES = ("f", "b", "d", "a", "e", "c")
OF_TABLES = [certify_table, certify_near, certify_far]


def greatest_night(seed, most_left):
    source = random.Random(seed)
    parties = tuple((name, source.randint(0, 10 ** 6)) for name in NAMES)
    return Night(tuple(range(1, 13)), parties, oracle.piles_for(source, NAMES, 6, most_left))


class CertificatesTest(CloseTest):
    def takes(self, pair, claim):
        """The pair is this claim with a certificate for it, which the checker accepts."""
        self.assertEqual([type(pair), len(pair), pair[0]], [tuple, 2, claim])
        self.assertEqual([type(part) for part in pair[0]], [type(part) for part in claim])
        self.assertIs(accepts(*pair), True)
        self.assertTrue(papers.is_right(*pair))

    def agrees_on_table(self, night, table, can):
        self.takes(certify_table(night, table), ("can" if can else "barred", str(night), table))
        far = distance(night, table)
        self.takes(certify_near(night, table), ("near", str(night), table, far))
        self.takes(certify_far(night, table), ("far", str(night), table, far))
        for call in OF_TABLES:
            self.assertEqual(call(night, table), call(night, table))

    def agrees_on_bloc(self, night, bloc, seats, told):
        fewest, most = told
        word = "sure" if fewest >= seats else "never" if most < seats else None
        pair = certify_bloc(night, bloc, seats)
        if word is None:
            self.assertIsNone(pair)
        else:
            self.takes(pair, (word, str(night), bloc, seats))
        self.assertEqual(pair, certify_bloc(night, bloc, seats))

    def test_tables_of_small_nights(self):
        for night in oracle.small_nights(91, 60):
            told = oracle.possible(night)
            for table in night.tables():
                self.agrees_on_table(night, table, table in told)

    def test_blocs_of_small_nights(self):
        for night in oracle.small_nights(92, 50):
            for bloc in oracle.groups(night.names):
                for seats in range(night.seats + 1):
                    self.agrees_on_bloc(night, bloc, seats, oracle.seat_range(night, bloc))

    def test_great_nights(self):
        for seed, night in enumerate(oracle.great_nights(93, 15) + oracle.close_nights(93, 15)):
            found = possible(night)
            for table in oracle.some_tables(night, seed, 8) + list(found[:4]):
                self.agrees_on_table(night, table, table in found)

    def test_the_greatest_nights(self):
        for seed, most_left in enumerate((10 ** 6, 10 ** 4)):
            night = greatest_night(seed, most_left)
            found = possible(night)
            source = random.Random(seed)
            for table in source.sample(night.tables(), 15) + source.sample(found, min(len(found), 10)):
                self.agrees_on_table(night, table, table in set(found))

    def test_a_bloc_of_the_greatest_night(self):
        night = greatest_night(5, 10 ** 5)
        bloc = ("a", "c", "f")
        fewest, most = seat_range(night, bloc)
        for seats, word in ((fewest, "sure"), (most + 1, "never")):
            claim, paper = certify_bloc(night, bloc, seats)
            self.assertEqual(claim, (word, str(night), bloc, seats))
            self.assertIs(accepts(claim, paper), True)
            self.assertIs(accepts(claim, paper[:-1]), False)
        self.assertIsNone(certify_bloc(night, bloc, most))
        self.assertLess(fewest, most)

    def test_blocs_of_divisors_close_together(self):
        source = random.Random(94)
        for night in oracle.close_nights(94, 12):
            if len(night.tables()) < 300:
                bloc = source.choice(oracle.groups(night.names))
                for seats in range(night.seats + 1):
                    self.agrees_on_bloc(night, bloc, seats, seat_range(night, bloc))

    def test_0_seats_are_sure(self):
        for night in oracle.small_nights(95, 20):
            for bloc in oracle.groups(night.names):
                self.assertEqual(certify_bloc(night, bloc, 0), (("sure", str(night), bloc, 0), ()))

    def test_the_distance_0(self):
        for night in oracle.small_nights(96, 20):
            for table in oracle.results(night.divisors, oracle.counts_of(night)):
                claim, (row, price) = certify_near(night, table)
                self.assertEqual([claim[3], row, price], [0, (0,) * len(night), least_price(night, table)])
                claim, paper = certify_far(night, table)
                self.assertEqual(claim[3], 0)
                self.assertIs(accepts(claim, paper), True)

    def test_rules(self):
        source = random.Random(97)
        for _ in range(150):
            seats = source.randint(1, 12)
            one = tuple(sorted(source.sample(range(1, 51), seats)))
            other = source.choice([tuple(2 * divisor for divisor in one), tuple(sorted(source.sample(range(1, 101), seats))), one])
            for many in range(2, 7):
                pair = certify_rules(one, other, many)
                self.takes(pair, ("alike" if are_alike(one, other, many) else "parted", one, other, many))
                self.assertEqual(pair, certify_rules(many=many, other=other, one=one))

    def test_by_hand(self):
        night = sample()
        self.assertEqual(certify_table(night, (1, 1, 1)), (("can", TEXT, (1, 1, 1)), (((0, 7),), (25, 1))))
        self.assertEqual(certify_table(night, (2, 0, 1)), (("barred", TEXT, (2, 0, 1)), ((("blue", (30, 1)),), ("red",))))
        self.assertEqual(certify_near(night, (1, 1, 1)), (("near", TEXT, (1, 1, 1), 7), ((0, 0, 7), (25, 1))))
        self.assertEqual(certify_far(night, (1, 1, 1)), (("far", TEXT, (1, 1, 1), 7), (("red", (25, 1)),)))
        self.assertEqual(certify_rules((1, 2), (2, 4), 3), (("alike", (1, 2), (2, 4), 3), ()))
        self.assertIsNone(certify_bloc(night, ("red",), 2))

    def test_by_name(self):
        night = sample()
        for call in OF_TABLES:
            self.assertEqual(call(table=(1, 1, 1), night=night), call(night, (1, 1, 1)))
        self.assertEqual(certify_bloc(seats=1, bloc=("red",), night=night), certify_bloc(night, ("red",), 1))
        self.assertEqual(night, sample())

    def test_errors(self):
        wrong = odd_values() + [(2, 1), [1, 1, 1], (1, 1, 2), (True, 1, 1), "111", (), -1, 4, "1", (1,), ("gold", "blue"), ("green",), ["red"]]
        for value in wrong:
            for call in OF_TABLES:
                self.raises_given(InvalidTable, value, call, sample(), value)
                self.raises_given(InvalidTable, value, call, table=value, night=sample())
            for seats in (1, None):
                self.raises_given(InvalidBloc, value, certify_bloc, sample(), value, seats)
                self.raises_given(InvalidBloc, value, certify_bloc, seats=seats, bloc=value, night=sample())
            self.raises_given(InvalidNumber, value, certify_bloc, sample(), ("red",), value)
            self.raises_given(InvalidNumber, value, certify_bloc, seats=value, bloc=("red",), night=sample())
        for value in [value for value in odd_values() if not isinstance(value, Night)] + [TEXT, (DIVISORS, PARTIES, PILES)]:
            for call in OF_TABLES:
                for table in ((1, 1, 1), None):
                    self.raises_given(NotANight, value, call, value, table)
            for bloc in (("red",), None):
                self.raises_given(NotANight, value, certify_bloc, value, bloc, None)

    def test_errors_of_rules(self):
        for value in odd_values() + [(), (2, 1), [1, 2], (0, 1), "1 2", 10 ** 39]:
            for many in (2, None):
                self.raises_given(InvalidDivisors, value, certify_rules, value, (1, 2, 3), many)
                self.raises_given(InvalidDivisors, value, certify_rules, (1, 2, 3), value, many)
        for value in odd_values() + [0, 1, 7, "2", (2,)]:
            for other in ((1, 2), (1, 2, 3)):
                self.raises_given(InvalidNumber, value, certify_rules, (1, 2), other, value)
        other = (1, 2, 3)
        self.raises_given(OtherSeats, other, certify_rules, (1, 2), other, 2)
