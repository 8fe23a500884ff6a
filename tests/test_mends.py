import itertools
import random

from restballots.errors import BadValue, InvalidChanges, InvalidDemand, InvalidDemands, NotANight
from restballots.mends import holds, mends
from restballots.nights import Night
from tests import oracle
from tests.samples import DIVISORS, PARTIES, PILES, TEXT, CloseTest, nested, odd_values, sample

RED = ("red",)
GOOD = ("can", (1, 1, 1))
CHANGE = ("count", 0, 7)
OTHER_TEXTS = [
    "divisors 1 2\nparty red 50\nparty blue 30\nparty gold 18", "divisors 1 2 3 4\nparty red 50\nparty blue 30\nparty gold 18",
    "divisors 1 2 3\nparty red 50\nparty blue 30", "divisors 1 2 3\nparty red 50\nparty blue 30\nparty gold 18\nparty a 1",
    "divisors 1 2 3\nparty red 50\nparty blue 30\nparty green 18", "divisors 1 2 3\nparty blue 30\nparty red 50\nparty gold 18",
    "divisors 1 2 3\nparty red 50\nparty gold 18\nparty blue 30",
]
NO_TEXTS = ["", "divisors", TEXT + "\n", " " + TEXT, TEXT.replace("20", "020"), TEXT.replace(" ", "  "), TEXT.upper(), "divisors 1 2 3", TEXT[9:]]


def no_demands():
    """What is no demand on the night of the samples."""
    found = odd_values() + [
        "can", ("can",), (GOOD,), list(GOOD), ["can", [1, 1, 1]], ("can", (1, 1, 1), 1), ("can", (1, 1, 1), None), ("can", 1, 1, 1),
        ("can", [1, 1, 1]), ("can", (1, 1)), ("can", (2, 1)), ("can", (3,)), ("can", (1, 1, 1, 0)), ("can", (1, 1, 2)), ("can", (0, 0, 0)),
        ("can", (4, 0, -1)), ("can", (True, 1, 1)), ("can", (3, 0, False)), ("can", "111"), ("can", ()), ("can", (13, 0, 0)),
        ("Can", (1, 1, 1)), ("can ", (1, 1, 1)), ("cannot", (1, 1, 1)), (b"can", (1, 1, 1)), ("", (1, 1, 1)), ((1, 1, 1), "can"),
        ("alike", "here", "there"), ("count", 0, 5), ("near", (1, 1, 1), 3), ("barred", (1, 1, 1)), ("here", GOOD), ("never", RED, 1),
        ("sure", RED), ("may", RED), ("far", RED), ("far", RED, 1), ("sure", RED, 1, 0), ("may", RED, 1, 0), ("far", RED, 1, 0, 0),
        ("sure", 1, RED), ("far", RED, 1, None), ("like",), ("like", TEXT, TEXT), ("like", sample()), ("like", TEXT.encode()),
        ("near", RED, 1, 1), ("Far", RED, 1, 1), ("", RED, 1, 1), (b"far", RED, 1, 1), ("can", RED, 1, 1), ("like", RED, 1, 1),
        ("like", (TEXT,)), ("like", RED, 1), ("can", RED, 1), ("sure", (1, 1, 1)),
    ]
    for word, *rest in (("sure",), ("may",), ("far", 0)):
        blocs = [(), "red", ["red"], ("green",), ("gold", "blue"), ("red", "red"), ("blue", "red", "gold"), ("red", None), ("Red",), (1,),
                 ("a", "b", "c", "d", "e", "f", "g"), ("blue", "gold", "green", "red")]
        found += [(word, bloc, 1, *rest) for bloc in blocs + odd_values()]
        found += [(word, RED, seats, *rest) for seats in [4, 13, 10 ** 39, "1", (1,), [1]] + odd_values()]
    found += [("far", RED, 1, many) for many in [10 ** 7 + 1, 10 ** 39, "1", (1,), [1]] + odd_values()]
    found += [("like", text) for text in OTHER_TEXTS + NO_TEXTS + odd_values()]
    found += [(value, RED, 1, 1) for value in odd_values()]
    return found + [(value, RED, 1) for value in odd_values()] + [(value, (1, 1, 1)) for value in odd_values()]


class HoldsTest(CloseTest):
    def test_by_hand(self):
        night = sample()
        told = {
            ("can", (1, 1, 1)): True, ("can", (1, 2, 0)): True, ("can", (2, 0, 1)): False, ("can", (3, 0, 0)): False,
            ("sure", RED, 0): True, ("sure", RED, 1): True, ("sure", RED, 2): False, ("sure", RED, 3): False,
            ("sure", ("blue", "gold"), 1): True, ("sure", ("blue", "gold"), 2): False, ("sure", ("blue", "gold", "red"), 3): True,
            ("may", ("gold",), 0): True, ("may", ("gold",), 1): True, ("may", ("gold",), 2): False, ("may", RED, 2): True,
            ("may", RED, 3): False, ("far", ("gold",), 1, 0): True, ("far", ("gold",), 1, 7): True, ("far", ("gold",), 1, 8): False,
            ("far", ("gold",), 0, 0): True, ("far", ("gold",), 0, 1): False, ("far", RED, 3, 10 ** 7): False,
            ("like", TEXT): True, ("like", TEXT.replace("pile 20", "pile 21")): True, ("like", TEXT.replace("pile 20", "pile 6")): False,
            ("like", "divisors 10 20 30\nparty red 500\nparty blue 300\nparty gold 180\npile 200 blue gold"): True,
            ("like", "divisors 1 2 3\nparty red 0\nparty blue 0\nparty gold 0"): False,
        }
        for demand, answer in told.items():
            for _ in range(2):
                self.assertIs(holds(night, demand), answer)
                self.assertIs(holds(demand=demand, night=night), answer)
        self.assertEqual(night, sample())

    def test_small_nights(self):
        source = random.Random(61)
        for night in oracle.small_nights(61, 80):
            for _ in range(12):
                demand = oracle.some_demand(source, night)
                self.assertIs(holds(night, demand), oracle.holds(night, demand))

    def test_all_numbers_of_seats(self):
        for night in oracle.small_nights(62, 25):
            for bloc in oracle.groups(night.names):
                for seats in range(night.seats + 1):
                    for demand in (("sure", bloc, seats), ("may", bloc, seats), ("far", bloc, seats, 3), ("far", bloc, seats, 0)):
                        self.assertIs(holds(night, demand), oracle.holds(night, demand))

    def test_margins_at_the_bounds(self):
        night = Night((1, 100), (("a", 10 ** 6), ("b", 0)))
        self.assertIs(holds(night, ("far", ("b",), 2, 10 ** 7)), True)
        self.assertIs(holds(night, ("far", ("b",), 1, 10 ** 4)), True)
        self.assertIs(holds(night, ("far", ("b",), 1, 10 ** 4 + 1)), False)
        self.assertIs(holds(night, ("far", ("b",), 0, 10 ** 7)), False)

    def test_its_own_text(self):
        for night in oracle.small_nights(63, 20):
            self.assertIs(holds(night, ("like", str(night))), True)

    def test_what_is_none(self):
        night = sample()
        for demand in no_demands():
            self.raises_given(InvalidDemand, demand, holds, night, demand)
            self.raises_given(InvalidDemand, demand, holds, demand=demand, night=night)
        with self.assertRaises(BadValue):
            holds(night, None)
        self.assertEqual(night, sample())

    def test_demands_of_another_night(self):
        for demand in (GOOD, ("sure", RED, 1), ("far", RED, 1, 1), ("like", TEXT)):
            self.raises_given(InvalidDemand, demand, holds, Night((1, 2), (("blue", 3), ("gold", 9))), demand)
        demand = ("sure", RED, 2)
        self.raises_given(InvalidDemand, demand, holds, Night((1,), PARTIES), demand)

    def test_no_night(self):
        for value in [value for value in odd_values() if not isinstance(value, Night)] + [TEXT, (DIVISORS, PARTIES, PILES)]:
            for demand in (GOOD, None, ()):
                self.raises_given(NotANight, value, holds, value, demand)
                self.raises_given(NotANight, value, mends, value, demand, demand)
                self.raises_given(NotANight, value, mends, changes=demand, demands=demand, night=value)

    def test_nothing_passed_is_changed(self):
        demand = ["can", [1, 1, 1]]
        self.raises_given(InvalidDemand, demand, holds, sample(), demand)
        self.assertEqual(demand, ["can", [1, 1, 1]])


def night_with(night, changes):
    """The night with all these changes, None if there is none; without the ways of the package."""
    row = list(night.divisors)
    parties = [list(party) for party in night.parties]
    piles = [list(pile) for pile in night.piles]
    for what, index, value in changes:
        if what == "divisor":
            row[index] = value
        elif what == "count":
            parties[index][1] = value
        else:
            piles[index][0] = value
    try:
        return Night(tuple(row), tuple(tuple(party) for party in parties), tuple(tuple(pile) for pile in piles))
    except BadValue:
        return None


def told_mends(night, demands, changes):
    """Point 14, word by word: all sets that mend, without those that have a proper part that does."""
    found = []
    for many in range(len(changes) + 1):
        for places in itertools.combinations(range(len(changes)), many):
            chosen = [changes[place] for place in places]
            unlike = len({(what, index) for what, index, _ in chosen}) == len(chosen)
            behind = night_with(night, chosen) if unlike else None
            if behind is not None and all(oracle.holds(behind, demand) for demand in demands):
                found.append(places)
    return tuple(places for places in found if not any(set(part) < set(places) for part in found))


def some_change(source, night):
    what = source.choice(["count", "count", "size", "divisor"] if night.piles else ["count", "count", "divisor"])
    if what == "count":
        return what, source.randrange(len(night)), source.choice([0, 1, 3, 9, 20, 40, -1, None])
    if what == "size":
        return what, source.randrange(len(night.piles)), source.choice([0, 1, 3, 5])
    index = source.randrange(night.seats)
    return what, index, source.choice([night.divisors[index] + source.randint(-3, 3), 1, 100, "2"])


class MendsTest(CloseTest):
    def agrees(self, night, demands, changes):
        told = told_mends(night, demands, changes)
        found = mends(night, demands, changes)
        self.assertEqual(found, told)
        self.assertEqual({type(part) for part in (found, *found)}, {tuple})
        self.assertEqual(found, mends(changes=changes, demands=demands, night=night))
        self.assertEqual(list(found), sorted(found, key=lambda places: (len(places), places)))
        return found

    def test_small_nights(self):
        source = random.Random(64)
        lengths = set()
        for night in oracle.small_nights(64, 130):
            demands = tuple(oracle.some_demand(source, night) for _ in range(source.choice([0, 1, 1, 1, 2, 3])))
            changes = tuple(some_change(source, night) for _ in range(source.randint(0, 5)))
            lengths |= {len(places) for places in self.agrees(night, demands, changes)}
        self.assertEqual(lengths, {0, 1, 2})

    def test_five_demands_and_five_changes(self):
        source = random.Random(65)
        for night in oracle.small_nights(65, 40):
            goal = night_with(night, [("count", 0, 7), ("count", len(night) - 1, 2)])
            every = [demand for demand in (oracle.some_demand(source, night) for _ in range(60)) if oracle.holds(goal, demand)]
            changes = (("count", len(night) - 1, 2), ("count", 0, 7), ("count", 0, 8), ("divisor", 0, night.divisors[0]), ("count", 0, 7))
            self.agrees(night, tuple(every[:5]), changes)
            self.agrees(night, (("like", str(goal)),) + tuple(every[:4]), changes)

    def test_the_empty_set(self):
        night = sample()
        self.assertEqual(mends(night, (), ()), ((),))
        self.assertEqual(mends(night, (GOOD,), ()), ((),))
        self.assertEqual(mends(night, (), (CHANGE, ("size", 0, 3), ("divisor", 2, 9))), ((),))
        self.assertEqual(mends(night, (GOOD,), (("count", 0, 50),)), ((),))

    def test_no_set_at_all(self):
        night = sample()
        self.assertEqual(mends(night, (("can", (0, 0, 3)),), ()), ())
        self.assertEqual(mends(night, (("can", (0, 0, 3)),), (("size", 0, 20), ("count", 0, 50))), ())
        self.assertEqual(mends(night, (("sure", RED, 2), ("sure", ("gold",), 2)), (("count", 0, 9), ("count", 2, 90))), ())

    def test_changes_of_one_part_are_never_together(self):
        night = sample()
        demand = (("sure", RED, 2),)
        self.assertEqual(mends(night, demand, (("size", 0, 6), ("size", 0, 6), ("size", 0, 7))), ((0,), (1,)))
        self.assertEqual(mends(night, demand, (("size", 0, 30), ("size", 0, 6), ("size", 0, 30))), ((1,),))
        one = Night((1,), (("a", 5), ("b", 0)))
        self.assertEqual(mends(one, (("sure", ("b",), 1),), (("count", 0, 3), ("count", 0, 3), ("count", 1, 4))), ((0, 2), (1, 2)))
        self.assertEqual(mends(one, (("sure", ("b",), 1),), (("count", 1, 4), ("count", 1, 5), ("count", 1, 6))), ((2,),))

    def test_a_night_only_together(self):
        night = Night((1, 2), (("a", 9), ("b", 5)))
        changes = (("divisor", 0, 3), ("divisor", 1, 4))
        self.assertEqual(self.agrees(night, (("can", (2, 0)),), changes), ((0, 1),))
        self.assertEqual(mends(Night((1, 2, 3), (("a", 12), ("b", 2))), (("can", (2, 1)),),
                               (("divisor", 2, 100), ("divisor", 1, 99), ("divisor", 0, 98), ("count", 1, 6))), ((0,), (3,)))
        night = Night((1, 2, 3), (("a", 12), ("b", 5)))
        self.agrees(night, (("can", (1, 2)),), (("divisor", 0, 50), ("divisor", 1, 60), ("divisor", 2, 70), ("count", 0, 3)))

    def test_what_gives_no_night(self):
        night = sample()
        demand = (("sure", RED, 2),)
        for value in odd_values() + [10 ** 6 + 1, "6", (6,), [6], {6: 6}, sample(), (1, 2, 3), 10 ** 39]:
            for change in (("size", 0, value), ("count", 0, value), ("count", 1, value), ("divisor", 0, value), ("divisor", 2, value)):
                self.assertEqual(mends(night, demand, (change,)), ())
                self.assertEqual(mends(night, demand, (change, ("size", 0, 6))), ((1,),))
        self.assertEqual(mends(night, demand, (("divisor", 0, 2), ("divisor", 2, 2), ("divisor", 2, 101), ("count", 0, 10 ** 6))), ((3,),))

    def test_a_part_that_mends_whatever_stands_between(self):
        # The empty set mends; one change alone breaks the demand, and both of them mend it again.
        night = Night((1,), (("a", 5), ("b", 4)))
        changes = (("count", 0, 3), ("count", 1, 2))
        for places, answer in (((), True), ((0,), False), ((1,), True), ((0, 1), True)):
            behind = night_with(night, [changes[place] for place in places])
            self.assertIs(holds(behind, ("sure", ("a",), 1)), answer)
        self.assertEqual(mends(night, (("sure", ("a",), 1),), changes), ((),))
        # The first change mends, the first two do not, all three do.
        night = Night((1,), (("a", 5), ("b", 6), ("c", 0)))
        changes = (("count", 0, 7), ("count", 2, 8), ("count", 1, 1))
        demand = (("may", ("a", "c"), 1), ("can", (1, 0, 0)))
        self.assertEqual(self.agrees(night, demand, changes), ((0,),) + ((2,),))

    def test_the_order(self):
        night = Night((1,), (("a", 0), ("b", 9), ("c", 9)))
        changes = (("count", 1, 4), ("count", 2, 4), ("count", 0, 5), ("count", 0, 9))
        self.assertEqual(self.agrees(night, (("may", ("a",), 1),), changes), ((3,), (0, 1, 2)))
        changes = (("count", 0, 5), ("count", 2, 4), ("count", 1, 4), ("count", 2, 5), ("count", 0, 10))
        self.assertEqual(self.agrees(night, (("may", ("a",), 1),), changes), ((4,), (0, 1, 2), (0, 2, 3)))

    def test_demands(self):
        night = sample()
        for value in no_demands():
            for changes in ((), None, (CHANGE,) * 6):
                self.raises_index(InvalidDemands, 0, mends, night, (value,), changes)
                self.raises_index(InvalidDemands, 2, mends, night, (GOOD, GOOD, value, None), changes)
                self.raises_index(InvalidDemands, 4, mends, night, (GOOD,) * 4 + (value, GOOD), changes)
            self.raises_index(InvalidDemands, 5, mends, night, (GOOD,) * 5 + (value,), ())
        self.raises_index(InvalidDemands, 5, mends, night, (GOOD,) * 6, ())
        self.raises_index(InvalidDemands, 5, mends, night, (GOOD,) * 700, ())
        self.assertEqual(mends(night, (GOOD,) * 5, ()), ((),))

    def test_what_is_no_tuple(self):
        night = sample()
        for value in [value for value in odd_values() if not isinstance(value, tuple)] + [[GOOD], [], {GOOD: 1}, "can", iter(())]:
            self.raises_index(InvalidDemands, None, mends, night, value, ())
            self.raises_index(InvalidDemands, None, mends, night, value, None)
            self.raises_index(InvalidChanges, None, mends, night, (), value)
            self.raises_index(InvalidChanges, None, mends, changes=value, demands=(GOOD,), night=night)

    def test_changes(self):
        night = sample()
        wrong = odd_values() + [
            (), "count", ("count",), ("count", 0), ("count", 0, 7, 7), ["count", 0, 7], ("counts", 0, 7), ("Count", 0, 7), (b"count", 0, 7),
            ("count", 3, 7), ("count", -1, 7), ("size", 1, 7), ("size", -1, 7), ("divisor", 3, 7), ("divisor", -1, 7), ("count", "0", 7),
            ("count", (0,), 7), (0, "count", 7), ("party", 0, 7), ("pile", 0, 7), (CHANGE,), ("size", 10 ** 39, 7), GOOD,
        ] + [(value, 0, 7) for value in odd_values()] + [(what, value, 7) for value in odd_values() for what in ("count", "size", "divisor")]
        for value in wrong:
            self.raises_index(InvalidChanges, 0, mends, night, (GOOD,), (value,))
            self.raises_index(InvalidChanges, 3, mends, night, (), (CHANGE, CHANGE, CHANGE, value, None))
            self.raises_index(InvalidChanges, 4, mends, night, (), (CHANGE,) * 4 + (value, None))
            self.raises_index(InvalidChanges, 5, mends, night, (), (CHANGE,) * 5 + (value,))
        self.raises_index(InvalidChanges, 5, mends, night, (), (CHANGE,) * 6)
        self.raises_index(InvalidChanges, 5, mends, night, (), (CHANGE,) * 600)
        self.raises_index(InvalidChanges, 0, mends, Night((1,), PARTIES), (), (("size", 0, 5),))
        self.assertEqual(mends(night, (GOOD,), (CHANGE,) * 5), ((),))

    def test_values_of_any_kind(self):
        night = sample()
        for value in odd_values() + [sample(), [1], {1: [2]}, nested(8), 10 ** 39, "x" * 8000]:
            for what in ("count", "size", "divisor"):
                self.assertEqual(mends(night, (GOOD,), ((what, 0, value),)), ((),))
                self.assertEqual(mends(night, (("can", (3, 0, 0)),), ((what, 0, value), (what, 0, value))), ())

    def test_nothing_passed_is_changed(self):
        night, value = sample(), [5]
        demands, changes = (("sure", RED, 2),), (("size", 0, value), ("size", 0, 6))
        for _ in range(2):
            self.assertEqual(mends(night, demands, changes), ((1,),))
        self.assertEqual([night, value, demands, changes], [sample(), [5], (("sure", RED, 2),), (("size", 0, [5]), ("size", 0, 6))])
        self.assertEqual(str(night), TEXT)

    def test_by_hand(self):
        changes = (("size", 0, 6), ("count", 0, 76), ("size", 0, 7), ("divisor", 1, 3))
        self.assertEqual(self.agrees(sample(), (("sure", RED, 2),), changes), ((0,), (1,)))
