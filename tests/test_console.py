import random

from restballots.blocs import margin, seat_range
from restballots.console import Console
from restballots.errors import InvalidText, NotANight
from restballots.live import Desk
from restballots.nights import Night
from restballots.possible import possible
from restballots.results import results
from tests import oracle
from tests.samples import DIVISORS, PARTIES, TEXT, CloseTest, odd_values, sample

RIGHT = ["count 0 4 16", "add 3 red", "undo", "piles", "tables", "range red", "margin gold 1", "result"]
NO_LINES = [
    "", " ", "count", "count 0", "count 0 ", "count  0 4 16", "count 0  4 16", "count 0 4  16", " count 0 4 16", "count 0 4 16 ", "count 0 4 16\n",
    "\ncount 0 4 16", "count\n0 4 16", "count 00 4 16", "count 10 4 16", "count -1 4 16", "count +0 4 16", "count x 4 16", "count 0 04 16",
    "count 0 4 00", "count 0 4 12345678", "count 0 -4 16", "count 0 4 x", "count 0 4 red", "count 0 4,16", "Count 0 4 16", "COUNT 0 4 16", "count0 4 16",
    "add", "add 3", "add 3 ", "add red", "add red 3", "add 3  red", "add  3 red", "add 03 red", "add 12345678 red", "add -3 red", "add 3 Red",
    "add 3 red ", "add 3 1red", "add 3 abcdefghi", "add 3 red,blue", "add 3 red 4", "add 3 red_", "Add 3 red", "add 3 red\n", "add red red", "add x red",
    "undo ", " undo", "undo 1", "undo undo", "Undo", "UNDO", "undo\n", "undo\t", "piles ", "piles 1", "Piles", "pile", "piles red", "tables ", "tables 1",
    "Tables", "table", "tables\n", "result ", "results", "result 1", "Result", "result red", "range", "range ", "range  red", "range red ", "range Red",
    "range red blue", "range 1", "range red 1", "Range red", "range red\n", "range abcdefghi", "ranges red", "margin", "margin red", "margin red ",
    "margin  red 1", "margin red  1", "margin red 01", "margin red 1 ", "margin red -1", "margin red 12345678", "margin Red 1", "margin 1 red",
    "margin red 1 2", "margin red blue 1", "margin 1", "Margin red 1", "margin red 1\n", "margin red x", "still", "night", "desk", "quit", "help", "none",
    "ok", "counts 0 1", "trial", "first", "red", "0", "count\t0\t4", TEXT, "divisors 1 2 3", "x" * 8000, "count " + "9" * 40 + " 1", "range  ", "add 3 red  blue",
]


def said(tables):
    return " ".join("-".join(str(own) for own in table) for table in tables)


class ConsoleTest(CloseTest):
    def says(self, console, line, answer):
        found = console.say(line)
        self.assertEqual([type(found), found], [str, answer], line)

    def test_lines_by_hand(self):
        console = Console(sample())
        for line, answer in [
            ("piles", "20"), ("result", "2-1-0"), ("tables", "1-1-1 1-2-0 2-1-0"), ("range red", "1 2"), ("range blue", "1 2"), ("range gold", "0 1"),
            ("margin gold 1", "7"), ("margin gold 0", "0"), ("margin blue 2", "20"), ("margin red 3", "40"), ("undo", "NothingToUndo"),
            ("add 3 red gold", "ok"), ("piles", "20 3"), ("add 0 blue", "ok"), ("piles", "20 3 0"), ("count 1 0 3", "ok"), ("piles", "20 0"),
            ("count 0 4 16", "ok"), ("piles", "0"), ("count 0 0", "ok"), ("piles", "none"), ("result", "1-1-1"), ("tables", "1-1-1"), ("undo", "ok"),
            ("undo", "ok"), ("undo", "ok"), ("piles", "20 3 0"), ("undo", "ok"), ("undo", "ok"), ("undo", "NothingToUndo"), ("piles", "20"),
        ]:
            self.says(console, line, answer)
        self.assertEqual(console.desk.night, sample())

    def test_errors_are_told_by_their_names(self):
        console = Console(sample())
        for line, answer in [
            ("count 1 4 16", "InvalidIndex"), ("count 9 1", "InvalidIndex"), ("count 1 1", "InvalidIndex"), ("count 0 4 17", "InvalidCounts"),
            ("count 0 4", "InvalidCounts"), ("count 0 4 1 1", "InvalidCounts"), ("count 0 9999999 9999999", "InvalidCounts"),
            ("add 3 green", "InvalidPiles"), ("add 3 gold blue", "InvalidPiles"), ("add 3 red red", "InvalidPiles"), ("add 1000001 red", "InvalidPiles"),
            ("add 9999999 red", "InvalidPiles"), ("range green", "InvalidBloc"), ("range g2345678", "InvalidBloc"), ("margin green 1", "InvalidBloc"),
            ("margin green 4", "InvalidBloc"), ("margin red 4", "InvalidNumber"), ("margin red 9999999", "InvalidNumber"), ("undo", "NothingToUndo"),
        ]:
            self.says(console, line, answer)
            self.assertEqual([console.desk.night, len(console.desk)], [sample(), 1])
        for _ in range(5):
            self.says(console, "add 1000000 red", "ok")
        self.says(console, "add 1 red", "InvalidPiles")
        self.says(console, "piles", "20" + 5 * " 1000000")

    def test_several_results(self):
        night = Night((1, 2), (("a", 5), ("b", 5), ("c", 5)))
        console = Console(night)
        self.says(console, "result", "0-1-1 1-0-1 1-1-0")
        self.says(console, "tables", "0-1-1 1-0-1 1-1-0")
        great = Night(tuple(range(1, 13)), (("a", 7), ("b", 0)))
        self.says(Console(great), "result", "12-0")
        self.says(Console(great), "range a", "12 12")

    def test_names_and_digits(self):
        night = Night((1,), (("a2345678", 5), ("z", 5)), ((3, ("a2345678",)),))
        console = Console(night)
        self.says(console, "range a2345678", "0 1")
        self.says(console, "margin z 1", "0")
        self.says(console, "add 0 a2345678 z", "ok")
        self.says(console, "add 1000000 z", "ok")
        self.says(console, "count 2 1000000", "InvalidCounts")
        self.says(console, "count 2 999995", "ok")
        self.says(console, "result", "0-1")

    def test_what_is_no_line(self):
        for started in ([], ["add 3 red gold", "count 0 4 16"]):
            console = Console(sample())
            for line in started:
                self.says(console, line, "ok")
            night = console.desk.night
            for line in NO_LINES:
                self.raises_given(InvalidText, line, console.say, line)
                self.raises_given(InvalidText, line, console.say, line=line)
            for value in odd_values() + [0, 3, ("undo",), ["undo"], b"undo", {"undo": 1}, [RIGHT], Desk(sample()), console]:
                self.raises_given(InvalidText, value, console.say, value)
            self.assertEqual([console.desk.night, len(started)], [night, len(started)])
            for _ in started:
                self.says(console, "undo", "ok")
            self.says(console, "undo", "NothingToUndo")

    def test_each_right_line_with_a_character_more_or_less(self):
        for line in RIGHT:
            for place in range(len(line) + 1):
                for sign in (" ", "\n", "\t", "A", "-", "_"):
                    told = line[:place] + sign + line[place:]
                    words = told.split(" ")
                    if sign != " " or "" in words or words[0] not in ("count", "add"):
                        self.raises_given(InvalidText, told, Console(sample()).say, told)
            self.assertTrue(Console(sample()).say(line))

    def test_the_desk(self):
        console = Console(sample())
        self.assertIsInstance(console.desk, Desk)
        self.assertIs(console.desk, console.desk)
        self.assertEqual([console.desk.night, console.desk.first], [sample(), sample()])
        console.desk.add(5, ("red",))
        self.says(console, "piles", "20 5")
        self.says(console, "undo", "ok")
        self.says(console, "piles", "20")

    def test_against_a_desk(self):
        source = random.Random(102)
        for night in oracle.small_nights(102, 40):
            console, desk = Console(night), Desk(night)
            for _ in range(15):
                name = source.choice(night.names)
                seats = source.randint(0, night.seats)
                self.says(console, "result", said(results(desk.night)))
                self.says(console, "tables", said(possible(desk.night)))
                self.says(console, f"range {name}", "{} {}".format(*seat_range(desk.night, (name,))))
                self.says(console, f"margin {name} {seats}", str(margin(desk.night, (name,), seats)))
                self.says(console, "piles", " ".join(str(size) for size, _ in desk.night.piles) or "none")
                self.one_more(source, console, desk)

    def one_more(self, source, console, desk):
        """Something done at both, right or wrong."""
        index, size = source.randint(0, 3), source.randint(0, 3)
        row = tuple(source.randint(0, 1) for _ in range(source.randint(1, 3)))
        names = tuple(source.choice(desk.night.names) for _ in range(source.randint(1, 2)))
        for line, call, given in source.sample([
            (f"count {index} " + " ".join(str(own) for own in row), desk.count, (index, row)),
            (f"add {size} " + " ".join(names), desk.add, (size, names)), ("undo", desk.undo, ()),
        ], 2):
            try:
                call(*given)
                answer = "ok"
            except (ValueError, ArithmeticError) as error:
                answer = type(error).__name__
            self.says(console, line, answer)
            self.assertEqual(console.desk.night, desk.night)

    def test_no_night(self):
        for value in [value for value in odd_values() if not isinstance(value, Night)] + [TEXT, (DIVISORS, PARTIES), Desk(sample())]:
            self.raises_given(NotANight, value, Console, value)
            self.raises_given(NotANight, value, Console, night=value)

    def test_truth_equality_and_methods(self):
        night = sample()
        console, other = Console(night), Console(night=night)
        self.assertEqual([console == console, console != console, console == other, console != other, bool(console)],
                         [True, False, False, True, True])
        for value in (None, night, console.desk, "tables", TEXT):
            self.assertEqual([console == value, value == console], [False, False])
        self.assertIn("say", vars(Console))
        self.assertIsInstance(vars(Console)["desk"], property)
        console.say("count 0 4 16")
        self.assertEqual([other.say(line="piles"), console.say("piles")], ["20", "none"])
