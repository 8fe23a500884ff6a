"""Errors of the modules results, prices, possible and blocs."""

from restballots.blocs import is_sure, margin, mattering, may_have, seat_range, seatless
from restballots.errors import BadValue, InvalidBloc, InvalidNumber, InvalidTable, NotANight
from restballots.nights import Night
from restballots.possible import ballots_for, barring, is_possible, possible
from restballots.prices import distance, least_price, needs
from restballots.results import is_result, prices, results
from tests.samples import DIVISORS, PARTIES, PILES, TEXT, CloseTest, nested, odd_values, sample

OF_NIGHTS = [results, possible, seatless]
OF_TABLES = [is_result, prices, least_price, needs, distance, is_possible, ballots_for, barring]
OF_BLOCS = [seat_range, mattering]
OF_SEATS = [is_sure, may_have, margin]
RIGHT = {"table": (1, 1, 1), "bloc": ("red",), "seats": 1}
WRONG = {"table": (1, 1, 2), "bloc": (), "seats": -1}


def arguments_of(call):
    if call in OF_TABLES:
        return ("table",)
    if call in OF_BLOCS:
        return ("bloc",)
    return ("bloc", "seats") if call in OF_SEATS else ()


def no_nights():
    return [value for value in odd_values() if not isinstance(value, Night)] + [
        TEXT, (DIVISORS, PARTIES, PILES), [sample()], {"night": sample()}, NotANight(sample()), (1, 1, 1), 10 ** 39, ("red",),
    ]


def no_tables():
    return odd_values() + [
        (), [2, 1, 0], [1, 1, 1], (2, 1), (3,), (2, 1, 0, 0), (1, 1, 2), (1, 1, 0), (0, 0, 0), (4, -1, 0), (-1, 2, 2), (True, 1, 1),
        (2, True, False), (3, 0, False), (3, 0, None), ("1", "1", "1"), "111", (1, 1, (1,)), ((1,), (1,), (1,)), ((2, 1, 0),),
        (1, 1, [1]), (10 ** 39, 1, 1), (10 ** 39, 1 - 10 ** 39, 2), {1: 1, 0: 1, 2: 1}, range(3), (1, 1, nested(8)), b"\x01\x01\x01",
    ]


def no_blocs():
    return odd_values() + [
        (), "red", ["red"], ("green",), ("red", "green"), ("red", "blue"), ("gold", "blue"), ("red", "red"), ("blue", "blue", "gold"),
        ("blue", "gold", "red", "red"), ("Red",), ("red ",), ("",), (b"red",), (None,), ("red", None), (1, "red"), ("blue", ("red",)),
        (("red",),), (0,), (0, 1), {"red"}, {"red": 1}, ("blue", ["red"]), ("red", nested(8)), ("a" * 8000,), ("re",),
    ]


def no_seats():
    return odd_values() + [(), -1, 4, 10 ** 39, -(10 ** 39), "1", (1,), [1], b"1", {1: 1}]


NOT_RIGHT = {"table": (InvalidTable, no_tables), "bloc": (InvalidBloc, no_blocs), "seats": (InvalidNumber, no_seats)}


class WrongTest(CloseTest):
    def test_night_ahead_of_all_others(self):
        for call in OF_NIGHTS + OF_TABLES + OF_BLOCS + OF_SEATS:
            names = arguments_of(call)
            for rest in (RIGHT, WRONG):
                more = [rest[name] for name in names]
                for value in no_nights():
                    self.raises_given(NotANight, value, call, value, *more)
                    self.raises_given(NotANight, value, call, night=value, **dict(zip(names, more)))

    def test_first_argument_behind_the_night(self):
        for call in OF_TABLES + OF_BLOCS + OF_SEATS:
            name, *others = arguments_of(call)
            kind, wrong = NOT_RIGHT[name]
            for rest in (RIGHT, WRONG):
                more = {other: rest[other] for other in others}
                for value in wrong():
                    self.raises_given(kind, value, call, sample(), value, *more.values())
                    self.raises_given(kind, value, call, night=sample(), **{name: value}, **more)

    def test_seats(self):
        for call in OF_SEATS:
            for value in no_seats():
                self.raises_given(InvalidNumber, value, call, sample(), ("red",), value)
                self.raises_given(InvalidNumber, value, call, night=sample(), bloc=("red",), seats=value)
            for seats in range(4):
                call(sample(), ("red",), seats)
            self.raises_given(InvalidNumber, 2, call, Night((5,), PARTIES), ("red",), 2)

    def test_tables_of_another_night(self):
        for call in OF_TABLES:
            for row, parties, table in (((1, 2), PARTIES, (1, 1, 1)), ((1, 2, 3), PARTIES[:2], (1, 1, 1)), ((1, 2), PARTIES[:1], (3,))):
                self.raises_given(InvalidTable, table, call, Night(row, parties), table)

    def test_blocs_of_another_night(self):
        for call in OF_BLOCS + OF_SEATS:
            more = (1,) if call in OF_SEATS else ()
            self.raises_given(InvalidBloc, ("red",), call, Night((1, 2), (("blue", 3), ("gold", 9))), ("red",), *more)

    def test_bloc_names_ascend_as_strings_do(self):
        parties = (("b", 5), ("a", 3), ("a1", 2), ("aa", 1))
        for bloc in (("a", "a1", "aa", "b"), ("a", "b"), ("a1", "aa")):
            seat_range(Night((1, 2), parties), bloc)
        for bloc in (("b", "a"), ("aa", "a1"), ("a1", "a")):
            self.raises_given(InvalidBloc, bloc, seat_range, Night((1, 2), parties), bloc)

    def test_base_class(self):
        for call, given, more in ((results, (None,), None), (is_result, (sample(), None), None), (seat_range, (sample(), None), None),
                                  (is_sure, (sample(), ("red",), None), None)):
            with self.assertRaises(BadValue):
                call(*given)

    def test_nothing_passed_is_changed(self):
        night, table, bloc = sample(), [1, 1, 1], ["red"]
        for call in OF_TABLES:
            call(night, (1, 1, 1))
            self.raises_given(InvalidTable, table, call, night, table)
        for call in OF_BLOCS:
            call(night, ("red",))
            self.raises_given(InvalidBloc, bloc, call, night, bloc)
        for call in OF_NIGHTS:
            call(night)
        self.assertEqual([str(night), night, table, bloc], [TEXT, sample(), [1, 1, 1], ["red"]])

    def test_the_same_each_time(self):
        for call in OF_TABLES:
            for table in sample().tables():
                self.assertEqual(repr(call(sample(), table)), repr(call(sample(), table)))
        for call in OF_NIGHTS:
            self.assertEqual(call(sample()), call(sample()))
