import itertools
import random

from restballots.errors import (
    Broken, InUse, InvalidDemand, InvalidIndex, InvalidName, NotANight, NothingToUndo, UnknownName,
)
from restballots.nights import Night
from restballots.shelves import Shelf
from tests import oracle
from tests.samples import DIVISORS, PARTIES, TEXT, CloseTest, nested, odd_values, sample

RED = ("red",)
NO_NAMES = ["", "Red", "2x", "_a", "a_b", "a b", " a", "a ", "a\n", "abcdefghi", "x" * 8000, "A", "9", "-", 5, ("here",), ["here"], {"here": 1}, b"here"]
METHODS = ["ask", "lift", "remove", "undo", "trial", "tried", "__init__", "__len__", "__bool__", "__contains__", "__getitem__", "__setitem__"]


class Halt(Exception):
    """An error that the package does not know."""


def put(shelf, name, night):
    shelf[name] = night


def looked(shelf, name):
    return shelf[name]


def seen(shelf):
    """All that can be seen on the shelf without changing it."""
    return [(name, str(shelf[name])) for name in shelf.names], shelf.demands, shelf.changes, len(shelf)


def condition(shelf):
    """All that can be asked of a shelf, down to what it can take back, by asking a trial."""
    before = []
    try:
        with shelf.trial():
            while True:
                before.append(seen(shelf))
                shelf.undo()
    except NothingToUndo:
        return before


def smaller(size):
    return sample().changed(("size", 0, size))


def some_demands():
    """Demands that no night at all has."""
    found = [value for value in odd_values()] + [
        "can", ("can",), ("can", (1, 1, 1), 1), ["can", (1, 1, 1)], ("can", [1, 1, 1]), ("can", ()), ("can", (0,)), ("can", (0, 0, 0)), ("can", (13,)),
        ("can", (12, 1)), ("can", (7, 6)), ("can", (1,) * 7), ("can", (0,) * 6 + (1,)), ("can", (2, -1)), ("can", (True,)), ("can", ("1",)), ("can", "1"),
        ("Can", (1,)), ("like",), ("like", ""), ("like", TEXT + "\n"), ("like", TEXT, TEXT), ("like", sample()), ("like", (TEXT,)), ("near", (1,), 3),
        ("alike", "here", "there"), ("sure", RED), ("sure", RED, 13), ("sure", RED, -1), ("sure", RED, True), ("sure", RED, "1"), ("sure", RED, 1, 1),
        ("may", RED, 13), ("may", RED, None), ("may", RED), ("far", RED, 1), ("far", RED, 13, 1), ("far", RED, 1, -1), ("far", RED, 1, 10 ** 7 + 1),
        ("far", RED, 1, True), ("far", RED, 1, None), ("far", RED, True, 1), ("far", RED, 1, 1, 1), ("never", RED, 1), ("count", 0, 5), ("near", RED, 1, 1),
        ("Far", RED, 1, 1), ("", RED, 1, 1), (b"far", RED, 1, 1), ("can", RED, 1, 1), ("like", RED, 1, 1), ("here", ("can", (1,))),
    ]
    for bloc in [(), "red", ["red"], ("red", "blue"), ("red", "red"), ("Red",), ("a" * 9,), ("a", "b", "c", "d", "e", "f", "g"), (1,), None, ("a", None),
                 ("a", "b", "c", "d", "e", "f", "f"), ("Red", "blue"), ("", "a"), ("a", "a b"), ("a", "bbbbbbbbb"), ("0", "a"), ("a", "z_"),
                 ("a", b"b"), (1, "a"), ("a", 1)] + odd_values():
        found += [("sure", bloc, 1), ("may", bloc, 1), ("far", bloc, 1, 1)]
    return found + [("can", value) for value in odd_values()] + [("like", value) for value in odd_values()] + [(value, RED, 1, *more) for value in odd_values() for more in ((), (1,))]


class ShelfCase(CloseTest):
    def setUp(self):
        self.shelf = Shelf()
        self.shelf["here"] = sample()
        self.shelf["there"] = smaller(6)
        self.shelf.ask(("there", ("sure", RED, 2)))
        self.shelf.ask(("alike", "here", "here"))
        self.shelf.ask(("here", ("may", ("gold",), 1)))
        self.begun = condition(self.shelf)

    def refuses(self, kind, told, call, *args, **more):
        """The call raises the error, and nothing has changed."""
        before = condition(self.shelf)
        if kind in (Broken, InUse):
            self.raises_index(kind, told, call, *args, **more)
        elif kind is NothingToUndo:
            self.raised(kind, call, *args, **more)
        else:
            self.raises_given(kind, told, call, *args, **more)
        self.assertEqual(condition(self.shelf), before)


class NightsTest(ShelfCase):
    def test_a_new_shelf(self):
        self.shelf = Shelf()
        self.assertEqual([self.shelf.names, self.shelf.demands, self.shelf.changes, len(self.shelf), bool(self.shelf)], [(), (), 0, 0, True])
        self.assertEqual([type(self.shelf.names), type(self.shelf.demands), type(self.shelf.changes)], [tuple, tuple, int])
        self.refuses(NothingToUndo, None, self.shelf.undo)
        self.refuses(UnknownName, "here", looked, self.shelf, "here")
        self.assertIs("here" in self.shelf, False)

    def test_put(self):
        shelf = Shelf()
        nights = {"b": sample(), "a": smaller(6), "abcdefgh": sample(), "a1": Night((1,), (("x", 5),)), "alike": sample()}
        for many, (name, night) in enumerate(nights.items()):
            shelf[name] = night
            self.assertIs(shelf[name], night)
            self.assertEqual([shelf.changes, len(shelf), shelf.names], [many + 1, many + 1, tuple(sorted(list(nights)[:many + 1]))])
        shelf["a"] = nights["a1"]
        self.assertEqual([shelf["a"], shelf.changes, len(shelf)], [nights["a1"], 6, 5])
        self.assertEqual([shelf["b"], shelf["a1"]], [sample(), nights["a1"]])

    def test_what_cannot_be_put(self):
        for name in NO_NAMES + odd_values():
            for night in (sample(), None, TEXT):
                self.refuses(InvalidName, name, put, self.shelf, name, night)
        for night in [value for value in odd_values() if not isinstance(value, Night)] + [TEXT, (DIVISORS, PARTIES), self.shelf, "here"]:
            for name in ("here", "there", "new"):
                self.refuses(NotANight, night, put, self.shelf, name, night)

    def test_a_put_that_breaks_a_demand(self):
        self.refuses(Broken, 0, put, self.shelf, "there", smaller(7))
        self.refuses(Broken, 2, put, self.shelf, "here", smaller(6))
        self.refuses(Broken, 2, put, self.shelf, "here", Night((1, 2, 3), (("red", 50), ("blue", 30))))
        self.refuses(Broken, 0, put, self.shelf, "there", Night((1,), PARTIES))
        self.shelf["here"] = smaller(7)
        self.shelf["there"] = smaller(5)
        self.shelf["new"] = smaller(0)
        self.assertEqual([str(self.shelf["here"]), str(self.shelf["there"])], [str(smaller(7)), str(smaller(5))])

    def test_the_first_demand_that_would_be_broken(self):
        shelf = self.shelf = Shelf()
        for name in ("a", "b", "c"):
            shelf[name] = sample()
        for demand in (("c", ("can", (1, 1, 1))), ("a", ("can", (2, 1, 0))), ("alike", "a", "b"), ("a", ("can", (1, 1, 1))), ("alike", "c", "a")):
            shelf.ask(demand)
        self.refuses(Broken, 2, put, shelf, "a", smaller(6))
        self.refuses(Broken, 1, put, shelf, "a", Night((1,), PARTIES))
        self.refuses(Broken, 0, put, shelf, "c", smaller(6))
        self.refuses(Broken, 2, put, shelf, "b", smaller(6))
        shelf.lift(2)
        self.refuses(Broken, 2, put, shelf, "a", smaller(6))
        shelf["b"] = smaller(6)
        shelf["a"] = smaller(21)

    def test_looking(self):
        self.assertEqual([self.shelf["here"], self.shelf["there"]], [sample(), smaller(6)])
        for name in NO_NAMES + odd_values() + ["other", "her", "heree", "there "]:
            self.refuses(UnknownName, name, looked, self.shelf, name)
            self.refuses(UnknownName, name, self.shelf.remove, name)
            self.refuses(UnknownName, name, self.shelf.remove, name=name)
            self.assertIs(name in self.shelf, False)
        for name in ("here", "there"):
            self.assertIs(name in self.shelf, True)
            self.assertIs(name not in self.shelf, False)
        self.assertEqual(condition(self.shelf), self.begun)

    def test_remove(self):
        for index, name in ((0, "there"), (1, "here")):
            self.refuses(InUse, index, self.shelf.remove, name)
        self.shelf["new"] = sample()
        self.assertIsNone(self.shelf.remove("new"))
        self.assertEqual([self.shelf.names, self.shelf.changes, "new" in self.shelf], [("here", "there"), 7, False])
        self.refuses(UnknownName, "new", self.shelf.remove, "new")
        self.shelf.lift(1)
        self.refuses(InUse, 1, self.shelf.remove, "here")
        self.shelf.lift(1)
        self.assertIsNone(self.shelf.remove(name="here"))
        self.assertEqual([self.shelf.names, self.shelf.demands], [("there",), (("there", ("sure", RED, 2)),)])

    def test_in_use_as_a_and_as_b(self):
        shelf = self.shelf = Shelf()
        for name in ("a", "b", "c", "can"):
            shelf[name] = sample()
        for demand in (("can", ("can", (1, 1, 1))), ("alike", "b", "c"), ("a", ("can", (1, 1, 1))), ("alike", "a", "b")):
            shelf.ask(demand)
        for name, index in (("a", 2), ("b", 1), ("c", 1), ("can", 0)):
            self.refuses(InUse, index, shelf.remove, name)
        shelf["sure"] = sample()
        shelf["alike"] = sample()
        shelf.remove("sure")
        shelf.remove("alike")

    def test_truth_and_equality(self):
        shelf, other = Shelf(), Shelf()
        self.assertEqual([shelf == shelf, shelf != shelf, shelf == other, shelf != other, bool(other)], [True, False, False, True, True])
        for value in (None, (), {}, sample(), "here", 0, False):
            self.assertEqual([shelf == value, value == shelf, shelf != value], [False, False, True])

    def test_methods_stand_in_the_class_itself(self):
        for name in METHODS:
            self.assertIn(name, vars(Shelf))
        for name in ("names", "demands", "changes"):
            self.assertIsInstance(vars(Shelf)[name], property)


class DemandsTest(ShelfCase):
    def test_ask(self):
        told = list(self.shelf.demands)
        self.assertEqual(told, [("there", ("sure", RED, 2)), ("alike", "here", "here"), ("here", ("may", ("gold",), 1))])
        for demand in (("here", ("can", (1, 1, 1))), ("there", ("far", RED, 3, 40)), ("here", ("like", TEXT)), ("alike", "there", "there"),
                       ("here", ("sure", ("blue", "gold"), 0)), ("here", ("can", (1, 1, 1)))):
            self.assertIsNone(self.shelf.ask(demand))
            told.append(demand)
            self.assertEqual([self.shelf.demands, self.shelf.changes], [tuple(told), 2 + len(told)])
            self.assertIs(self.shelf.demands[-1], demand)

    def test_ask_by_name_and_names_like_words(self):
        shelf = Shelf()
        for name in ("alike", "can", "like"):
            shelf[name] = sample()
        self.assertIsNone(shelf.ask(demand=("alike", ("can", (1, 1, 1)))))
        shelf.ask(("alike", "alike", "can"))
        shelf.ask(("like", ("like", TEXT)))
        self.raises_index(Broken, 3, shelf.ask, ("alike", ("can", (3, 0, 0))))
        self.assertEqual(len(shelf.demands), 3)

    def test_what_is_no_demand(self):
        for value in some_demands():
            for demand in (("here", value), ("other", value), ("Here", value), (5, value)):
                self.refuses(InvalidDemand, demand, self.shelf.ask, demand)
        good = ("can", (1, 1, 1))
        wrong = odd_values() + [(name, good) for name in NO_NAMES + odd_values()] + [("alike", name, "here") for name in NO_NAMES + odd_values()]
        wrong += [("alike", "here", name) for name in NO_NAMES + odd_values()] + [(value, "here", "here") for value in odd_values()]
        wrong += [("alike",), ("alike", "here"), ("alike", "here", "here", "here"), ["alike", "here", "here"], ["here", good], ("here", good, good), ("here",),
                  ("here", list(good)), ("Alike", "here", "here"), ("like", "here", "here"), good, ("sure", RED, 2), ("here", "can", (1, 1, 1)), "here", (),
                  {"here": good}, ("alike", ("here", "here")), (good, "here"), ("here", nested(8))]
        for demand in wrong:
            self.refuses(InvalidDemand, demand, self.shelf.ask, demand)
            self.refuses(InvalidDemand, demand, self.shelf.ask, demand=demand)

    def test_unknown_names(self):
        for demand in (("other", ("can", (1, 1, 1))), ("other", ("can", (12,))), ("other", ("like", "divisors 1\nparty a 1"))):
            self.refuses(UnknownName, demand[0], self.shelf.ask, demand)
        for one, other, given in (("other", "here", "other"), ("here", "other", "other"), ("other", "another", "other"), ("another", "other", "another"),
                                  ("other", "other", "other")):
            self.refuses(UnknownName, given, self.shelf.ask, ("alike", one, other))

    def test_what_does_not_hold(self):
        for demand in (("here", ("can", (2, 0, 1))), ("here", ("sure", RED, 2)), ("here", ("may", ("gold",), 2)), ("here", ("far", ("gold",), 1, 8)),
                       ("there", ("like", TEXT)), ("alike", "here", "there"), ("alike", "there", "here")):
            self.refuses(Broken, 3, self.shelf.ask, demand)
            self.refuses(Broken, 3, self.shelf.ask, demand=demand)

    def test_what_is_a_demand_on_another_night(self):
        text = "divisors 1 2\nparty red 50\nparty blue 30\nparty gold 18"
        for told in [("can", (1,)), ("can", (12,)), ("can", (0, 0, 0, 0, 0, 12)), ("can", (2, 1)), ("can", (2, 2, 0)), ("sure", ("green",), 0), ("sure", RED, 4),
                     ("sure", RED, 12), ("may", ("a", "b", "c", "d", "e", "f"), 0), ("may", ("blue", "green"), 1), ("far", ("green",), 0, 0),
                     ("far", RED, 12, 10 ** 7), ("like", text), ("like", TEXT.replace("red", "rot").replace("50", "0")), ("like", "divisors 1\nparty a 0"),
                     ("may", RED, 4), ("far", ("blue", "zz"), 1, 0), ("sure", ("abcdefgh",), 12)]:
            self.refuses(Broken, 3, self.shelf.ask, ("here", told))
            self.refuses(UnknownName, "other", self.shelf.ask, ("other", told))

    def test_alike(self):
        source = random.Random(111)
        answers = set()
        for night in oracle.small_nights(111, 60):
            other = oracle.other_night(source, night)
            shelf = Shelf()
            shelf["a"], shelf["b"] = night, other
            told = oracle.possible(night) == oracle.possible(other)
            answers.add(told)
            for demand in (("alike", "a", "b"), ("alike", "b", "a")):
                if told:
                    self.assertIsNone(shelf.ask(demand))
                else:
                    self.raises_index(Broken, len(shelf.demands), shelf.ask, demand)
            shelf.ask(("alike", "a", "a"))
        self.assertEqual(answers, {True, False})

    def test_alike_needs_the_same_seats_and_names(self):
        nights = [
            Night((1, 2), (("a", 5), ("b", 0))), Night((1, 2), (("b", 0), ("a", 5))), Night((1, 2), (("a", 5), ("c", 0))), Night((1,), (("a", 5), ("b", 0))),
            Night((1, 2), (("a", 5),)), Night((1, 2), (("a", 5), ("b", 0), ("c", 0))), Night((1, 2), (("a", 0), ("b", 5))),
        ]
        shelf = Shelf()
        for index, night in enumerate(nights):
            shelf[f"n{index}"] = night
        for index in range(1, len(nights)):
            self.raises_index(Broken, 0, shelf.ask, ("alike", "n0", f"n{index}"))
            self.raises_index(Broken, 0, shelf.ask, ("alike", f"n{index}", "n0"))
        shelf["same"] = Night((10, 20), (("a", 700), ("b", 3)), ((4, ("b",)),))
        shelf.ask(("alike", "n0", "same"))

    def test_small_nights(self):
        source = random.Random(112)
        for night in oracle.small_nights(112, 50):
            shelf = Shelf()
            shelf["a"] = night
            for _ in range(6):
                told = oracle.some_demand(source, night)
                if oracle.holds(night, told):
                    self.assertIsNone(shelf.ask(("a", told)))
                else:
                    self.raises_index(Broken, len(shelf.demands), shelf.ask, ("a", told))
            other = oracle.other_night(source, night)
            broken = [index for index, (_, told) in enumerate(shelf.demands) if not oracle.holds(other, told)]
            if broken:
                self.raises_index(Broken, broken[0], put, shelf, "a", other)
                self.assertIs(shelf["a"], night)
            else:
                shelf["a"] = other
                self.assertIs(shelf["a"], other)

    def test_lift(self):
        for index in odd_values() + [3, 4, -1, 10 ** 39, "0", (0,), [0]]:
            self.refuses(InvalidIndex, index, self.shelf.lift, index)
            self.refuses(InvalidIndex, index, self.shelf.lift, index=index)
        told = self.shelf.demands
        self.assertIsNone(self.shelf.lift(1))
        self.assertEqual([self.shelf.demands, self.shelf.changes], [(told[0], told[2]), 6])
        self.refuses(InvalidIndex, 2, self.shelf.lift, 2)
        self.shelf.lift(index=1)
        self.shelf.lift(0)
        self.assertEqual([self.shelf.demands, self.shelf.changes], [(), 8])
        self.refuses(InvalidIndex, 0, self.shelf.lift, 0)

    def test_very_many(self):
        shelf = Shelf()
        for number in range(300):
            shelf[f"n{number}"] = smaller(number)
            shelf.ask((f"n{number}", ("can", (2, 1, 0))))
        self.assertEqual([len(shelf), len(shelf.demands), shelf.changes], [300, 300, 600])
        self.raises_index(InUse, 299, shelf.remove, "n299")
        for _ in range(600):
            shelf.undo()
        self.assertEqual([len(shelf), shelf.demands, shelf.changes], [0, (), 0])


class Plain:
    """A shelf word by word: errors as pairs of a name and what they tell, None where all is right."""

    def __init__(self):
        self.nights, self.demands, self.past = {}, [], []

    def keep(self):
        self.past.append((dict(self.nights), list(self.demands)))

    def holds(self, nights, demand):
        if len(demand) == 3:
            one, other = nights[demand[1]], nights[demand[2]]
            same = (one.seats, one.names) == (other.seats, other.names)
            return same and oracle.possible(one) == oracle.possible(other)
        night, told = nights[demand[0]], demand[1]
        if told[0] == "can":
            fits = len(told[1]) == len(night) and sum(told[1]) == night.seats
        elif told[0] == "like":
            fits = (Night.read(told[1]).seats, Night.read(told[1]).names) == (night.seats, night.names)
        else:
            fits = set(told[1]) <= set(night.names) and told[2] <= night.seats
        return fits and oracle.holds(night, told)

    def put(self, name, night):
        later = {**self.nights, name: night}
        broken = [index for index, demand in enumerate(self.demands) if not self.holds(later, demand)]
        if broken:
            return "Broken", broken[0]
        self.keep()
        self.nights = later

    def remove(self, name):
        if name not in self.nights:
            return "UnknownName", name
        used = [index for index, demand in enumerate(self.demands) if name in (demand[1:] if len(demand) == 3 else demand[:1])]
        if used:
            return "InUse", used[0]
        self.keep()
        del self.nights[name]

    def ask(self, demand):
        for name in demand[1:] if len(demand) == 3 else demand[:1]:
            if name not in self.nights:
                return "UnknownName", name
        if not self.holds(self.nights, demand):
            return "Broken", len(self.demands)
        self.keep()
        self.demands.append(demand)

    def lift(self, index):
        if not 0 <= index < len(self.demands):
            return "InvalidIndex", index
        self.keep()
        del self.demands[index]

    def undo(self):
        if not self.past:
            return "NothingToUndo", None
        self.nights, self.demands = self.past.pop()


class SessionsTest(ShelfCase):
    def one_more(self, source, night):
        """Something to be done at a shelf, right or wrong: the name of the method, and what it is passed."""
        name, second = source.choice("abc"), source.choice("abcd")
        near = source.choice([night, oracle.other_night(source, night), oracle.small_nights(source.randint(0, 5), 1)[0]])
        return source.choice([
            ("put", name, near), ("put", name, near), ("ask", ("alike", name, second)), ("ask", (name, oracle.some_demand(source, near))),
            ("ask", (second, oracle.some_demand(source, night))), ("lift", source.randint(-1, 4)), ("remove", second), ("undo",),
        ])

    def outcome(self, shelf, method, *given):
        try:
            found = put(shelf, *given) if method == "put" else getattr(shelf, method)(*given)
            self.assertIsNone(found)
        except (ValueError, LookupError, ArithmeticError) as error:
            told = list(vars(error).values())
            return type(error).__name__, told[0] if told else None
        return None

    def test_against_a_plain_shelf(self):
        answers = set()
        for seed in range(40):
            source = random.Random(seed)
            night = oracle.small_nights(1000 + seed, 1)[0]
            shelf, plain = Shelf(), Plain()
            for _ in range(40):
                method, *given = self.one_more(source, night)
                told = getattr(plain, method)(*given)
                self.assertEqual(self.outcome(shelf, method, *given), told)
                answers.add((method, told and told[0]))
                self.assertEqual(seen(shelf), ([(name, str(plain.nights[name])) for name in sorted(plain.nights)], tuple(plain.demands),
                                               len(plain.past), len(plain.nights)))
        self.assertEqual(len(answers), 12)

    def test_trials_within_a_session(self):
        for seed in range(20):
            source = random.Random(seed)
            night = oracle.small_nights(2000 + seed, 1)[0]
            shelf = Shelf()
            for _ in range(15):
                before = condition(shelf)
                bad = source.random() < 0.5
                try:
                    with shelf.trial():
                        for _ in range(source.randint(0, 5)):
                            self.outcome(shelf, *self.one_more(source, night))
                        behind = condition(shelf)
                        if bad:
                            raise Halt
                except Halt:
                    pass
                self.assertEqual(condition(shelf), before if bad else behind)


class UndoTest(ShelfCase):
    def test_back_to_the_empty_shelf(self):
        self.assertEqual([told[2] for told in self.begun], [5, 4, 3, 2, 1, 0])
        for told in self.begun[1:]:
            self.assertIsNone(self.shelf.undo())
            self.assertEqual(seen(self.shelf), told)
        for _ in range(2):
            self.refuses(NothingToUndo, None, self.shelf.undo)
        self.assertEqual(seen(self.shelf), ([], (), 0, 0))

    def test_each_change_counts(self):
        shelf = Shelf()
        told = [seen(shelf)]
        for call, given in [(put, (shelf, "a", sample())), (put, (shelf, "a", sample())), (put, (shelf, "b", sample())), (shelf.ask, (("alike", "a", "b"),)),
                            (shelf.ask, (("alike", "a", "b"),)), (put, (shelf, "a", sample())), (shelf.lift, (0,)), (shelf.lift, (0,)), (shelf.remove, ("a",)),
                            (put, (shelf, "a", smaller(3))), (shelf.remove, ("a",))]:
            self.assertIsNone(call(*given))
            told.append(seen(shelf))
            self.assertEqual(shelf.changes, len(told) - 1)
        for before in reversed(told[:-1]):
            shelf.undo()
            self.assertEqual(seen(shelf), before)
        self.raised(NothingToUndo, shelf.undo)

    def test_behind_an_undo(self):
        self.shelf.undo()
        self.shelf.undo()
        self.shelf["new"] = sample()
        self.assertEqual([self.shelf.changes, self.shelf.names], [4, ("here", "new", "there")])
        self.shelf.undo()
        self.assertEqual(condition(self.shelf), self.begun[2:])

    def test_undo_brings_demands_and_nights_back(self):
        self.shelf.lift(0)
        self.shelf.remove("there")
        self.shelf.undo()
        self.assertIs("there" in self.shelf, True)
        self.shelf.undo()
        self.refuses(InUse, 0, self.shelf.remove, "there")

    def test_what_was_told_stays(self):
        names, demands = self.shelf.names, self.shelf.demands
        self.shelf["new"] = sample()
        self.shelf.lift(0)
        self.assertEqual([names, len(demands)], [("here", "there"), 3])


class TrialTest(ShelfCase):
    def work(self, shelf):
        shelf["new"] = sample()
        shelf.ask(("alike", "new", "here"))
        shelf.lift(0)

    def test_what_ends_well_stays(self):
        with self.shelf.trial() as same:
            self.assertIs(same, self.shelf)
            self.work(same)
        self.assertEqual([self.shelf.changes, condition(self.shelf)[3:]], [8, self.begun])

    def test_an_error_of_any_kind_takes_all_back(self):
        for kind in (Halt, KeyError, NothingToUndo, KeyboardInterrupt, SystemExit, StopIteration):
            error = kind()
            with self.assertRaises(kind) as caught:
                with self.shelf.trial() as same:
                    self.work(same)
                    raise error
            self.assertIs(caught.exception, error)
            self.assertEqual(condition(self.shelf), self.begun)

    def test_an_error_of_the_shelf_takes_all_back(self):
        for action in (lambda: self.shelf.lift(9), lambda: self.shelf["other"], lambda: self.shelf.remove("here"),
                       lambda: self.shelf.ask(("alike", "here", "there")), lambda: put(self.shelf, "", sample())):
            with self.assertRaises((ValueError, LookupError, ArithmeticError)):
                with self.shelf.trial():
                    self.shelf["new"] = sample()
                    self.shelf.undo()
                    self.shelf.undo()
                    action()
            self.assertEqual(condition(self.shelf), self.begun)

    def test_undo_behind_the_beginning(self):
        with self.assertRaises(Halt):
            with self.shelf.trial():
                for _ in range(5):
                    self.shelf.undo()
                self.raised(NothingToUndo, self.shelf.undo)
                self.shelf["zz"] = sample()
                raise Halt
        self.assertEqual(condition(self.shelf), self.begun)
        with self.shelf.trial():
            self.shelf.undo()
        self.assertEqual(condition(self.shelf), self.begun[1:])

    def test_trials_within_trials(self):
        for inner, outer, with_one in itertools.product((False, True), repeat=3):
            self.setUp()
            shelf = self.shelf
            trial = shelf.trial()
            other = trial if with_one else shelf.trial()
            told = [condition(shelf)]
            try:
                with trial:
                    shelf["new"] = sample()
                    told.append(condition(shelf))
                    try:
                        with other as same:
                            self.assertIs(same, shelf)
                            same.undo()
                            same.undo()
                            told.append(condition(shelf))
                            if inner:
                                raise Halt
                    except Halt:
                        pass
                    self.assertEqual(condition(shelf), told[1 if inner else 2])
                    if outer:
                        raise Halt
            except Halt:
                pass
            self.assertEqual(condition(shelf), told[0] if outer else told[1 if inner else 2])

    def test_tried(self):
        value = object()
        self.assertIs(self.shelf.tried(lambda same: value), value)
        self.assertIsNone(self.shelf.tried(action=lambda same: same.undo()))
        self.assertEqual(condition(self.shelf), self.begun[1:])
        self.assertEqual(self.shelf.tried(len), 2)

        def action(same):
            self.assertIs(same, self.shelf)
            same.undo()
            same["new"] = sample()
            raise Halt

        with self.assertRaises(Halt):
            self.shelf.tried(action)
        self.assertEqual(condition(self.shelf), self.begun[1:])

    def test_the_beginning_is_where_the_rows_begin(self):
        trial = self.shelf.trial()
        self.shelf["new"] = sample()
        told = condition(self.shelf)
        for _ in range(2):
            with self.assertRaises(Halt):
                with trial:
                    self.shelf.undo()
                    raise Halt
            self.assertEqual(condition(self.shelf), told)
