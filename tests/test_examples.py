"""The examples of the document, as they stand there and in their order."""

import unittest

EXAMPLES = r'''
>>> from restballots.nights import Night
>>> night = Night.read("divisors 1 2 3\nparty red 50\nparty blue 30\nparty gold 18\npile 20 blue gold")
>>> [night.divisors, night.parties, night.piles, night.names, night.seats, len(night), len(night.tables())]
[(1, 2, 3), (('red', 50), ('blue', 30), ('gold', 18)), ((20, ('blue', 'gold')),), ('red', 'blue', 'gold'), 3, 3, 10]
>>> [night.counted(0, (4, 16)).parties, night.changed(("size", 0, 5)).piles, night.tables()[:2]]
[(('red', 50), ('blue', 34), ('gold', 34)), ((5, ('blue', 'gold')),), ((0, 0, 3), (0, 1, 2))]
>>> from restballots.results import is_result, prices, results
>>> [results(night), prices(night, (2, 1, 0)), is_result(night, (1, 1, 1)), prices(night, (1, 1, 1))]
[((2, 1, 0),), ((18, 1), (25, 1)), False, None]
>>> results(Night((1, 3), (("a", 30), ("b", 10)), ()))
((1, 1), (2, 0))
>>> from restballots.prices import distance, least_price, needs
>>> [least_price(night, (1, 1, 1)), needs(night, (1, 1, 1)), distance(night, (1, 1, 1)), needs(night, (2, 0, 1)), distance(night, (2, 1, 0))]
[(25, 1), (50, 30, 25), 7, (60, 30, 30), 0]
>>> from restballots.possible import ballots_for, barring, is_possible, possible
>>> [possible(night), is_possible(night, (2, 0, 1)), len(barring(night, (2, 0, 1))), barring(night, (1, 1, 1))]
[((1, 1, 1), (1, 2, 0), (2, 1, 0)), False, 2, None]
>>> [ballots_for(night, (1, 2, 0)), ballots_for(night, (2, 0, 1))]
[(((20, 0),), (25, 1)), None]
>>> from restballots.blocs import is_sure, margin, mattering, may_have, seat_range, seatless
>>> [seat_range(night, ("red",)), seat_range(night, ("blue", "gold")), is_sure(night, ("red",), 1), may_have(night, ("gold",), 2)]
[(1, 2), (1, 2), True, False]
>>> [margin(night, ("blue",), 2), margin(night, ("gold",), 1), margin(night, ("red",), 2), mattering(night, ("red",)), seatless(night)]
[20, 7, 0, (0,), ()]
>>> from restballots.rules import are_alike, favours, parting_counts, parting_pairs
>>> [parting_pairs((1, 2, 3), (1, 3, 5), 2), parting_pairs((1, 2, 3), (1, 3, 5), 3), are_alike((1, 2, 3), (2, 4, 6), 4)]
[((1, 3),), ((1, 2), (1, 3)), True]
>>> [favours((1, 3, 5), (1, 2, 3)), favours((1, 2, 3), (1, 3, 5)), parting_counts((1, 2), (3, 6), 2)]
[True, False, None]
>>> from restballots.mends import holds, mends
>>> [holds(night, ("can", (1, 1, 1))), holds(night, ("sure", ("red",), 2)), holds(night, ("far", ("gold",), 1, 7)), holds(night, ("may", ("gold",), 2))]
[True, False, True, False]
>>> mends(night, (("sure", ("red",), 2),), (("size", 0, 6), ("count", 0, 76), ("size", 0, 7), ("divisor", 1, 3)))
((0,), (1,))
>>> from restballots.live import Desk
>>> desk = Desk(night)
>>> desk.count(0, (4, 16))
>>> [len(desk), desk.still, desk.night.parties, possible(desk.night)]
[0, 1, (('red', 50), ('blue', 34), ('gold', 34)), ((1, 1, 1),)]
>>> desk.add(3, ("red", "green"))
raises InvalidPiles(index=0)
>>> from restballots.shelves import Shelf
>>> shelf = Shelf()
>>> shelf["here"] = night
>>> shelf["there"] = night.changed(("size", 0, 6))
>>> shelf.ask(("there", ("sure", ("red",), 2)))
>>> [shelf.names, len(shelf.demands), shelf.changes, "other" in shelf]
[('here', 'there'), 1, 3, False]
>>> shelf.ask(("alike", "here", "there"))
raises Broken(index=1)
>>> from restballots.certificates import certify_bloc, certify_far, certify_near, certify_rules, certify_table
>>> from restballots.checker import accepts
>>> [certify_table(night, (1, 1, 1))[0][0], certify_table(night, (2, 0, 1))[0][0], certify_bloc(night, ("red",), 1)[0][0], certify_bloc(night, ("red",), 2)]
['can', 'barred', 'sure', None]
>>> [certify_near(night, (1, 1, 1))[0][3], certify_far(night, (1, 2, 0))[0][3], certify_rules((1, 2), (1, 3), 2)[0][0], certify_rules((1, 2), (2, 4), 3)[1]]
[7, 20, 'parted', ()]
>>> [accepts(("barred", str(night), (2, 0, 1)), ((("blue", (30, 1)),), ("red",))), accepts(("can", str(night), (1, 1, 1)), (((0, 7),), (25, 1))), accepts(("can", str(night), (1, 1, 1)), (((0, 6),), (24, 1)))]
[True, True, False]
>>> from restballots.console import Console
>>> console = Console(night)
>>> [console.say("result"), console.say("tables"), console.say("range red"), console.say("margin gold 1"), console.say("count 0 4 17"), console.say("count 0 4 16"), console.say("tables")]
['2-1-0', '1-1-1 1-2-0 2-1-0', '1 2', '7', 'InvalidCounts', 'ok', '1-1-1']
>>> console.say("count 0")
raises InvalidText(given='count 0')
'''


def examples():
    """Pairs of a row and the row that stands below it, if it tells what comes of it."""
    rows = EXAMPLES.strip("\n").split("\n")
    for row, below in zip(rows, rows[1:] + [">>> "]):
        if row.startswith(">>> "):
            yield row[4:], None if below.startswith(">>> ") else below


def run(code, space):
    """What comes of a row that tells no result: None, as a statement or as the value."""
    try:
        return eval(code, space)
    except SyntaxError:
        return exec(code, space)


def error_told(error):
    """The error as the document writes it."""
    attributes = ", ".join(f"{name}={value!r}" for name, value in vars(error).items())
    return f"raises {type(error).__name__}({attributes})"


class ExamplesTest(unittest.TestCase):
    def test_all_in_their_order(self):
        space = {}
        for code, told in examples():
            with self.subTest(code=code):
                if told is None:
                    self.assertIsNone(run(code, space))
                elif told.startswith("raises "):
                    with self.assertRaises(Exception) as caught:
                        eval(code, space)
                    self.assertEqual(error_told(caught.exception), told)
                else:
                    self.assertEqual(repr(eval(code, space)), told)

    def test_none_is_left_out(self):
        told = [below for _, below in examples()]
        self.assertEqual([len(told), len([below for below in told if below])], [42, 22])


if __name__ == "__main__":
    unittest.main()
