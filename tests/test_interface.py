"""The interface as a whole: names, files, parameters, and values of any kind wherever an error is listed."""

import importlib
import inspect
import itertools
import unittest

from restballots import errors
from restballots.blocs import is_sure, margin, mattering, may_have, seat_range, seatless
from restballots.certificates import certify_bloc, certify_far, certify_near, certify_rules, certify_table
from restballots.checker import accepts
from restballots.console import Console
from restballots.live import Desk
from restballots.mends import holds, mends
from restballots.nights import Night
from restballots.possible import ballots_for, barring, is_possible, possible
from restballots.prices import distance, least_price, needs
from restballots.results import is_result, prices, results
from restballots.rules import are_alike, favours, parting_counts, parting_pairs
from restballots.shelves import Shelf
from tests.samples import DIVISORS, PARTIES, PILES, TEXT, nested, odd_values, sample

FUNCTIONS = {
    "results": {"is_result": ["night", "table"], "results": ["night"], "prices": ["night", "table"]},
    "prices": {"least_price": ["night", "table"], "needs": ["night", "table"], "distance": ["night", "table"]},
    "possible": {"is_possible": ["night", "table"], "possible": ["night"], "ballots_for": ["night", "table"], "barring": ["night", "table"]},
    "blocs": {
        "seat_range": ["night", "bloc"], "is_sure": ["night", "bloc", "seats"], "may_have": ["night", "bloc", "seats"],
        "margin": ["night", "bloc", "seats"], "mattering": ["night", "bloc"], "seatless": ["night"],
    },
    "rules": {
        "parting_pairs": ["one", "other", "many"], "are_alike": ["one", "other", "many"], "parting_counts": ["one", "other", "many"],
        "favours": ["one", "other"],
    },
    "mends": {"holds": ["night", "demand"], "mends": ["night", "demands", "changes"]},
    "checker": {"accepts": ["claim", "certificate"]},
    "certificates": {
        "certify_table": ["night", "table"], "certify_bloc": ["night", "bloc", "seats"], "certify_near": ["night", "table"],
        "certify_far": ["night", "table"], "certify_rules": ["one", "other", "many"],
    },
}
CLASSES = {
    ("nights", "Night"): {
        "__init__": ["self", "divisors", "parties", "piles"], "read": ["text"], "changed": ["self", "change"], "counted": ["self", "index", "ballots"],
        "tables": ["self"], "__len__": ["self"], "__str__": ["self"], "__eq__": ["self", "other"],
    },
    ("live", "Desk"): {
        "__init__": ["self", "night"], "count": ["self", "index", "ballots"], "add": ["self", "size", "names"], "undo": ["self"], "trial": ["self"],
        "tried": ["self", "action"], "__len__": ["self"],
    },
    ("shelves", "Shelf"): {
        "__init__": ["self"], "remove": ["self", "name"], "ask": ["self", "demand"], "lift": ["self", "index"], "undo": ["self"], "trial": ["self"],
        "tried": ["self", "action"], "__len__": ["self"], "__getitem__": ["self", "name"], "__setitem__": ["self", "name", "night"],
        "__contains__": ["self", "value"],
    },
    ("console", "Console"): {"__init__": ["self", "night"], "say": ["self", "line"]},
}
PROPERTIES = {
    ("nights", "Night"): ["divisors", "parties", "piles", "names", "seats"], ("live", "Desk"): ["night", "still", "first"],
    ("shelves", "Shelf"): ["names", "demands", "changes"], ("console", "Console"): ["desk"],
}
NIGHTS = {"night": sample()}
TABLE = {"night": sample(), "table": (1, 1, 1)}
BLOC = {"night": sample(), "bloc": ("red",)}
SEATS = {"night": sample(), "bloc": ("red",), "seats": 1}
ROWS = {"one": (1, 2, 3), "other": (1, 3, 5), "many": 3}
CALLS = [
    (results, NIGHTS), (possible, NIGHTS), (seatless, NIGHTS), (Desk, NIGHTS), (Console, NIGHTS), (is_result, TABLE), (prices, TABLE),
    (least_price, TABLE), (needs, TABLE), (distance, TABLE), (is_possible, TABLE), (ballots_for, TABLE), (barring, TABLE), (certify_table, TABLE),
    (certify_near, TABLE), (certify_far, TABLE), (seat_range, BLOC), (mattering, BLOC), (is_sure, SEATS), (may_have, SEATS), (margin, SEATS),
    (certify_bloc, SEATS), (parting_pairs, ROWS), (are_alike, ROWS), (parting_counts, ROWS), (certify_rules, ROWS),
    (favours, {"one": (1, 2, 3), "other": (1, 3, 5)}), (holds, {"night": sample(), "demand": ("can", (1, 1, 1))}),
    (mends, {"night": sample(), "demands": (("can", (1, 1, 1)),), "changes": (("count", 0, 7),)}), (Night.read, {"text": TEXT}),
    (Night, {"divisors": DIVISORS, "parties": PARTIES, "piles": PILES}), (sample().changed, {"change": ("count", 0, 7)}),
    (sample().counted, {"index": 0, "ballots": (4, 16)}), (accepts, {"claim": ("can", TEXT, (1, 1, 1)), "certificate": (((0, 7),), (25, 1))}),
]
OWN = tuple(vars(errors)[name] for name in vars(errors) if isinstance(vars(errors)[name], type))


def shelf_with():
    shelf = Shelf()
    shelf["here"] = sample()
    shelf.ask(("here", ("can", (1, 1, 1))))
    return shelf


def shelf_put(name, night):
    shelf_with()[name] = night


def calls_of_objects():
    """Calls of methods, of a new object each time."""
    return [
        (lambda **more: Desk(sample()).count(**more), {"index": 0, "ballots": (4, 16)}),
        (lambda **more: Desk(sample()).add(**more), {"size": 3, "names": ("red",)}), (lambda **more: shelf_put(**more), {"name": "here", "night": sample()}),
        (lambda name: shelf_with()[name], {"name": "here"}), (lambda **more: shelf_with().remove(**more), {"name": "here"}),
        (lambda **more: shelf_with().ask(**more), {"demand": ("alike", "here", "here")}), (lambda **more: shelf_with().lift(**more), {"index": 0}),
        (lambda **more: Console(sample()).say(**more), {"line": "tables"}), (lambda value: value in shelf_with(), {"value": "here"}),
    ]


def returned():
    """What the package returns, some of it great, and some of it with parts changed."""
    great = Night(tuple(range(1, 13)), tuple((name, 0) for name in "abcdef"))
    found = [great.tables(), possible(sample()), results(great), possible(great), str(great), str(sample()), sample().names, sample().parties, sample().piles]
    found += [barring(sample(), (3, 0, 0)), ballots_for(sample(), (1, 1, 1)), prices(sample(), (2, 1, 0)), (1, 1, 1), parting_pairs((1, 2, 3), (1, 3, 5), 3)]
    for pair in (certify_table(sample(), (3, 0, 0)), certify_bloc(sample(), ("red",), 1), certify_near(great, (12, 0, 0, 0, 0, 0)), certify_rules((1,), (2,), 2)):
        found += [pair, *pair, pair[::-1], list(pair), pair[0][1:], pair[1] + pair[1]]
    return found + [Desk(sample()), shelf_with(), Console(sample()), Desk(sample()).trial(), shelf_with().demands, great, errors.InUse(3)]


class NamesTest(unittest.TestCase):
    def test_functions_stand_in_their_files(self):
        for module, functions in FUNCTIONS.items():
            for name, parameters in functions.items():
                found = getattr(importlib.import_module(f"restballots.{module}"), name)
                self.assertEqual((found.__module__, found.__name__), (f"restballots.{module}", name))
                self.assertTrue(inspect.isfunction(found))
                self.assertEqual(list(inspect.signature(found).parameters), parameters)

    def test_methods_stand_in_their_classes(self):
        for (module, name), methods in CLASSES.items():
            found = getattr(importlib.import_module(f"restballots.{module}"), name)
            self.assertEqual((found.__module__, found.__name__), (f"restballots.{module}", name))
            for method, parameters in methods.items():
                self.assertIn(method, vars(found))
                self.assertEqual(list(inspect.signature(getattr(found, method)).parameters), parameters)
            for told in PROPERTIES[module, name]:
                self.assertIsInstance(vars(found)[told], property)

    def test_defaults(self):
        for call, _ in CALLS:
            told = {name: one.default for name, one in inspect.signature(call).parameters.items() if one.default is not one.empty}
            self.assertEqual(told, {"piles": ()} if call is Night else {})

    def test_each_parameter_by_position_and_by_name(self):
        for call, given in CALLS:
            told = call(**given)
            for many in range(len(given) + 1):
                names = list(given)
                again = call(*[given[name] for name in names[:many]], **{name: given[name] for name in names[many:]})
                if not isinstance(told, (Desk, Console)):
                    self.assertEqual(again, told)

    def test_no_name_is_missing(self):
        self.assertEqual(len(list(itertools.chain(*FUNCTIONS.values()))), 28)


class AnyKindTest(unittest.TestCase):
    def test_only_errors_of_the_package(self):
        values = odd_values() + returned() + [nested(9), [[{1: [2]}]], "x" * 8000, 10 ** 39, -(10 ** 39), (10 ** 39,)]
        for call, given in CALLS + calls_of_objects():
            for name in given:
                for value in values:
                    try:
                        call(**{**given, name: value})
                    except OWN:
                        pass

    def test_both_sides_of_equal(self):
        night = sample()
        objects = [night, Desk(night), shelf_with(), Console(night), Desk(night).trial(), errors.InvalidText(""), errors.NothingToUndo(), errors.Broken(1)]
        values = [value for value in odd_values() if type(value).__module__ != "tests.samples" and not isinstance(value, Night)]
        for one in objects:
            self.assertEqual([one == one, one != one, bool(one)], [True, False, True])
            for value in values + [TEXT, nested(9), (night,), [one], (one,)] + [other for other in objects if other is not one]:
                self.assertEqual([one == value, value == one, one != value, value != one], [False, False, True, True])
        self.assertEqual([one in objects for one in objects], [True] * len(objects))

    def test_values_in_a_shelf(self):
        shelf = shelf_with()
        for value in odd_values() + returned():
            self.assertIs(value in shelf, False)
        self.assertEqual(["here" in shelf, "her" in shelf, ("here",) in shelf], [True, False, False])

    def test_the_same_each_time(self):
        for call, given in CALLS:
            if call not in (Desk, Console):
                self.assertEqual(call(**given), call(**given))
        self.assertEqual([str(given.get("night", sample())) for _, given in CALLS], [TEXT] * len(CALLS))


if __name__ == "__main__":
    unittest.main()
