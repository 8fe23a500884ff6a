import random

from restballots.blocs import is_sure, margin, mattering, may_have, seat_range, seatless
from restballots.nights import Night
from restballots.possible import possible
from restballots.prices import distance
from tests import oracle
from tests.samples import CloseTest, sample

NAMES = ("f", "b", "d", "a", "e", "c")


def without(night, index):
    """The night with the size of one pile put to 0."""
    piles = list(night.piles)
    piles[index] = (0, piles[index][1])
    return Night(night.divisors, night.parties, tuple(piles))


def told_mattering(night, bloc, range_of):
    return tuple(index for index in range(len(night.piles)) if range_of(without(night, index), bloc) != range_of(night, bloc))


class BlocsTest(CloseTest):
    def agrees(self, night, found, blocs):
        """The answers for the blocs are those that the possible tables have."""
        for bloc in blocs:
            held = [oracle.seats_in(night, bloc, table) for table in found]
            self.assertEqual(seat_range(night, bloc), (min(held), max(held)))
            self.assertIs(type(seat_range(night, bloc)), tuple)
            for seats in range(night.seats + 1):
                self.assertIs(is_sure(night, bloc, seats), min(held) >= seats)
                self.assertIs(may_have(night, bloc, seats), max(held) >= seats)
        none = tuple(name for place, name in enumerate(night.names) if all(table[place] == 0 for table in found))
        self.assertEqual(seatless(night), none)
        self.assertIs(type(seatless(night)), tuple)

    def test_ranges_of_all_blocs_of_small_nights(self):
        for night in oracle.small_nights(31, 80):
            self.agrees(night, oracle.possible(night), oracle.groups(night.names))

    def test_ranges_of_great_nights(self):
        source = random.Random(32)
        for night in oracle.great_nights(32, 5):
            blocs = oracle.groups(night.names)
            self.agrees(night, possible(night), source.sample(blocs, min(len(blocs), 2)))

    def test_all_parties_have_all_seats(self):
        for night in oracle.small_nights(33, 30):
            whole = tuple(sorted(night.names))
            self.assertEqual(seat_range(night, whole), (night.seats, night.seats))
            self.assertIs(is_sure(night, whole, night.seats), True)
            self.assertEqual([margin(night, whole, night.seats), mattering(night, whole)], [0, ()])

    def test_zero_seats_are_sure(self):
        for night in oracle.small_nights(34, 30):
            for bloc in oracle.groups(night.names):
                self.assertEqual([is_sure(night, bloc, 0), may_have(night, bloc, 0), margin(night, bloc, 0)], [True, True, 0])

    def test_margins_of_small_nights(self):
        for night in oracle.small_nights(35, 60):
            far = {table: distance(night, table) for table in night.tables()}
            for bloc in oracle.groups(night.names):
                for seats in range(night.seats + 1):
                    told = min(far[table] for table in far if oracle.seats_in(night, bloc, table) >= seats)
                    self.assertEqual(margin(night, bloc, seats), told)

    def test_margins_by_going_through_all_ways(self):
        for row in ((1, 2), (2, 3), (1, 2, 3)):
            for counts in ((3, 1, 0), (2, 2, 2), (0, 4, 1)):
                night = Night(row, tuple(zip(("c", "a", "b"), counts)))
                for bloc in oracle.groups(night.names):
                    for seats in range(night.seats + 1):
                        told = [oracle.distance(row, counts, table) for table in night.tables()
                                if oracle.seats_in(night, bloc, table) >= seats]
                        self.assertEqual(margin(night, bloc, seats), min(told))

    def test_piles_are_nothing_to_margins(self):
        for night in oracle.small_nights(36, 30):
            still = Night(night.divisors, night.parties)
            for bloc in oracle.groups(night.names):
                for seats in range(night.seats + 1):
                    self.assertEqual(margin(night, bloc, seats), margin(still, bloc, seats))

    def test_margins_by_hand(self):
        night = Night((1, 2, 3), (("a", 12), ("b", 3), ("c", 0)))
        self.assertEqual([margin(night, ("a",), seats) for seats in range(4)], [0, 0, 0, 0])
        self.assertEqual([margin(night, ("b",), seats) for seats in range(4)], [0, 1, 9, 33])
        self.assertEqual([margin(night, ("c",), seats) for seats in range(4)], [0, 4, 12, 36])
        self.assertEqual([margin(night, ("b", "c"), seats) for seats in range(4)], [0, 1, 9, 33])

    def test_mattering_in_small_nights(self):
        source = random.Random(37)
        for _ in range(40):
            night = oracle.night_of(source, source.choice(((1, 2), (1, 2, 3), (2, 3))), 3, 5, source.randint(0, 4), 2)
            for bloc in oracle.groups(night.names):
                self.assertEqual(mattering(night, bloc), told_mattering(night, bloc, oracle.seat_range))

    def test_mattering_in_great_nights(self):
        source = random.Random(38)
        for night in oracle.great_nights(38, 3):
            bloc = source.choice(oracle.groups(night.names))
            self.assertEqual(mattering(night, bloc), told_mattering(night, bloc, seat_range))

    def test_mattering_by_hand(self):
        parties = (("a", 9), ("b", 0), ("c", 0))
        night = Night((1, 2), parties, ((1, ("b",)), (4, ("b",)), (4, ("c",)), (5, ("c",)), (0, ("b",))))
        self.assertEqual([mattering(night, ("b",)), mattering(night, ("c",)), mattering(night, ("a",))], [(0, 1), (3,), ()])
        night = Night((1, 2), parties, ((20, ("b",)), (20, ("b",)), (5, ("c",))))
        self.assertEqual([mattering(night, ("b",)), mattering(night, ("c",)), mattering(night, ("b", "c"))], [(), (2,), ()])
        self.assertEqual(mattering(Night((1, 2), parties), ("b",)), ())

    def test_without_seats(self):
        parties = (("zed", 0), ("a", 9), ("mid", 1))
        self.assertEqual(seatless(Night((1, 2), parties)), ("zed", "mid"))
        self.assertEqual(seatless(Night((1, 2), parties, ((5, ("zed",)),))), ("mid",))
        self.assertEqual(seatless(Night((1, 2), parties, ((4, ("zed",)), (4, ("mid",))))), ("zed",))
        self.assertEqual(seatless(Night((1, 2), (("zed", 0), ("a", 0)))), ())
        self.assertEqual(seatless(Night((1, 2), (("zed", 0),))), ())

    def test_the_greatest_night(self):
        source = random.Random(39)
        parties = tuple((name, source.randint(0, 10 ** 6)) for name in NAMES)
        night = Night(tuple(range(1, 13)), parties, oracle.piles_for(source, NAMES, 6, 10 ** 5))
        found = possible(night)
        self.agrees(night, found, [("a", "c", "f")])
        far = [distance(night, table) for table in night.tables() if oracle.seats_in(night, ("b", "d"), table) >= 7]
        self.assertEqual(margin(night, ("b", "d"), 7), min(far))

    def test_by_name_and_again(self):
        night = sample()
        for _ in range(2):
            self.assertEqual(seat_range(bloc=("blue", "gold"), night=night), (1, 2))
            self.assertIs(is_sure(seats=1, bloc=("red",), night=night), True)
            self.assertIs(may_have(seats=2, bloc=("gold",), night=night), False)
            self.assertEqual(margin(seats=2, bloc=("blue",), night=night), 20)
            self.assertEqual(mattering(bloc=("red",), night=night), (0,))
            self.assertEqual(seatless(night=night), ())
        self.assertEqual(night, sample())
