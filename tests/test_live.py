import random

from restballots.errors import InvalidCounts, InvalidIndex, InvalidPiles, NotANight, NothingToUndo
from restballots.live import Desk
from restballots.nights import Night
from restballots.possible import possible
from tests import oracle
from tests.samples import DIVISORS, PARTIES, TEXT, CloseTest, nested, odd_values, sample

THREE = ((20, ("blue", "gold")), (5, ("red",)), (9, ("red", "blue", "gold")))
METHODS = ["count", "add", "undo", "trial", "tried", "__len__", "__init__"]


class Halt(Exception):
    """An error that the package does not know."""


def night_with(piles=THREE):
    return Night(DIVISORS, PARTIES, piles)


def condition(desk):
    """All that can be asked of a desk, down to what it can take back, by asking a trial."""
    before = []
    trial = desk.trial()
    try:
        with trial:
            while True:
                before.append((str(desk.night), len(desk), desk.still, str(desk.first)))
                desk.undo()
    except NothingToUndo:
        return before


class DeskCase(CloseTest):
    def raises_and_changes_nothing(self, desk, kind, given, call, *args, **more):
        told = condition(desk)
        if kind is InvalidPiles:
            self.raises_index(kind, given, call, *args, **more)
        elif kind is NothingToUndo:
            self.raised(kind, call)
        else:
            self.raises_given(kind, given, call, *args, **more)
        self.assertEqual(condition(desk), told)


class DeskTest(DeskCase):
    def test_a_new_desk(self):
        night = night_with()
        for desk in (Desk(night), Desk(night=night)):
            self.assertEqual([desk.night, desk.first, len(desk), desk.still], [night, night, 3, len(possible(night))])
            self.assertEqual([type(desk.still), type(len(desk)), type(desk.night)], [int, int, Night])
            self.raises_and_changes_nothing(desk, NothingToUndo, None, desk.undo)

    def test_no_night(self):
        for value in [value for value in odd_values() if not isinstance(value, Night)] + [TEXT, (DIVISORS, PARTIES), Desk(sample())]:
            self.raises_given(NotANight, value, Desk, value)
            self.raises_given(NotANight, value, Desk, night=value)

    def test_count_each_pile_in_several_orders(self):
        ballots = {20: (4, 16), 5: (3,), 9: (1, 0, 8)}
        for order in ((0, 0, 0), (0, 1, 0), (1, 0, 0), (1, 1, 0), (2, 0, 0), (2, 1, 0)):
            desk = Desk(night_with())
            told = night_with()
            for index in order:
                row = ballots[told.piles[index][0]]
                told = told.counted(index, row)
                self.assertIsNone(desk.count(index, row))
                self.assertEqual([desk.night, len(desk), desk.still], [told, len(told.piles), len(possible(told))])
                self.assertEqual(desk.first, night_with())
            self.assertEqual([desk.night.parties, len(desk)], [(("red", 54), ("blue", 34), ("gold", 42)), 0])

    def test_add(self):
        desk = Desk(night_with())
        self.assertIsNone(desk.add(7, ("red", "gold")))
        self.assertIsNone(desk.add(names=("blue",), size=0))
        self.assertEqual(desk.night.piles, THREE + ((7, ("red", "gold")), (0, ("blue",))))
        self.assertEqual([len(desk), desk.first, desk.night.parties], [5, night_with(), PARTIES])
        desk.count(0, (0, 0))
        desk.add(10 ** 6, ("red", "blue", "gold"))
        self.assertEqual(desk.night.piles[-2:], ((0, ("blue",)), (10 ** 6, ("red", "blue", "gold"))))
        desk.add(1, ("gold",))
        self.assertEqual([len(desk), desk.night.piles[5]], [6, (1, ("gold",))])

    def test_what_cannot_be_added(self):
        wrong = [(-1, ("red",)), (10 ** 6 + 1, ("red",)), (3, ()), (3, ("green",)), (3, ("blue", "red")), (3, ["red"]), (3, "red"),
                 (3, ("red", "red")), ("3", ("red",)), (True, ("red",)), (None, None), (("red",), 3), (10 ** 39, ("red",))]
        wrong += [(value, ("red",)) for value in odd_values()] + [(3, value) for value in odd_values() + [nested(8)]]
        for many in range(7):
            desk = Desk(night_with(((5, ("red",)),) * many))
            for size, names in wrong + ([(3, ("red",))] if many == 6 else []):
                self.raises_and_changes_nothing(desk, InvalidPiles, many, desk.add, size, names)
                self.raises_and_changes_nothing(desk, InvalidPiles, many, desk.add, names=names, size=size)

    def test_what_cannot_be_counted(self):
        desk = Desk(night_with())
        for index in [-1, 3, 4, True, False, "0", (0,), 10 ** 39, None] + odd_values():
            for ballots in ((4, 16), (), None):
                self.raises_and_changes_nothing(desk, InvalidIndex, index, desk.count, index, ballots)
                self.raises_and_changes_nothing(desk, InvalidIndex, index, desk.count, ballots=ballots, index=index)
        for ballots in [(4, 17), (21, 0), (4,), (4, 0, 0), [4, 16], (4, -1), (True, 1), "11", ()] + odd_values():
            self.raises_and_changes_nothing(desk, InvalidCounts, ballots, desk.count, 0, ballots)
            self.raises_and_changes_nothing(desk, InvalidCounts, ballots, desk.count, ballots=ballots, index=0)
        full = Desk(Night((1,), (("a", 10 ** 6),), ((5, ("a",)),)))
        ballots = (1,)
        self.raises_and_changes_nothing(full, InvalidCounts, ballots, full.count, 0, ballots)
        full.count(0, (0,))
        self.raises_and_changes_nothing(full, InvalidIndex, 0, full.count, 0, ballots)

    def test_undo(self):
        desk = Desk(night_with())
        seen = [desk.night]
        for call, given in ((desk.count, (1, (5,))), (desk.add, (3, ("gold",))), (desk.count, (0, (1, 2))), (desk.add, (4, ("red",)))):
            call(*given)
            seen.append(desk.night)
        for night in reversed(seen[:-1]):
            self.assertIsNone(desk.undo())
            self.assertEqual(desk.night, night)
        for _ in range(2):
            self.raises_and_changes_nothing(desk, NothingToUndo, None, desk.undo)
        self.assertEqual([desk.night, desk.first], [night_with(), night_with()])
        desk.count(1, (2,))
        desk.undo()
        desk.count(0, (1, 2))
        desk.undo()
        self.raises_and_changes_nothing(desk, NothingToUndo, None, desk.undo)

    def test_still_against_all_ballots(self):
        source = random.Random(71)
        for night in oracle.small_nights(71, 30):
            desk = Desk(night)
            while True:
                self.assertEqual(desk.still, len(oracle.possible(desk.night)))
                if len(desk) == 0:
                    break
                index = source.randrange(len(desk))
                desk.count(index, source.choice(oracle.outcomes(desk.night.piles[index])))
            self.assertEqual(desk.first, night)

    def test_truth_and_equality(self):
        night = sample()
        desk, other = Desk(night), Desk(night)
        for one in (desk, other):
            one.count(0, (0, 0))
        self.assertEqual([bool(desk), len(desk)], [True, 0])
        self.assertEqual([desk == desk, desk != desk, desk == other, desk != other], [True, False, False, True])
        for value in (None, night, TEXT, 0, True, (desk,), desk.night):
            self.assertEqual([desk == value, value == desk, desk != value], [False, False, True])
        self.assertIs(bool(desk.trial()), True)

    def test_the_night_that_was_passed_stays(self):
        night = night_with()
        desk = Desk(night)
        ballots = (4, 16)
        desk.count(0, ballots)
        desk.add(3, ("red",))
        self.assertEqual([str(night), ballots, desk.first], [str(night_with()), (4, 16), night])

    def test_by_name(self):
        desk = Desk(night=sample())
        self.assertIsNone(desk.count(ballots=(4, 16), index=0))
        self.assertIsNone(desk.add(names=("red",), size=3))
        self.assertEqual(desk.tried(action=lambda same: len(same)), 1)

    def test_methods_stand_in_the_class_itself(self):
        for name in METHODS:
            self.assertIn(name, vars(Desk))
        for name in ("night", "still", "first"):
            self.assertIsInstance(vars(Desk)[name], property)

    def test_very_many_calls(self):
        desk = Desk(Night((1,), (("a", 0),)))
        for _ in range(20000):
            desk.add(5, ("a",))
            desk.count(0, (0,))
        with desk.trial():
            for _ in range(40000):
                desk.undo()
            self.raised(NothingToUndo, desk.undo)


class TrialTest(DeskCase):
    def setUp(self):
        self.desk = Desk(night_with())
        self.desk.count(1, (5,))
        self.begun = condition(self.desk)

    def work(self, desk):
        desk.count(0, (1, 2))
        desk.add(3, ("gold",))

    def test_gives_the_desk(self):
        with self.desk.trial() as same:
            self.assertIs(same, self.desk)

    def test_what_ends_well_stays(self):
        with self.desk.trial() as same:
            self.work(same)
        self.assertEqual(condition(self.desk)[2:], self.begun)
        self.assertEqual([len(self.desk), self.desk.night.piles[-1]], [2, (3, ("gold",))])

    def test_an_error_of_any_kind_takes_all_back(self):
        for kind in (Halt, KeyError, ZeroDivisionError, NothingToUndo, KeyboardInterrupt, SystemExit, GeneratorExit, StopIteration):
            error = kind()
            with self.assertRaises(kind) as caught:
                with self.desk.trial() as same:
                    self.work(same)
                    raise error
            self.assertIs(caught.exception, error)
            self.assertEqual(condition(self.desk), self.begun)

    def test_an_error_of_the_desk_takes_all_back(self):
        for action in (lambda: self.desk.count(9, ()), lambda: self.desk.count(0, ()), lambda: self.desk.add(-1, ())):
            with self.assertRaises((InvalidIndex, InvalidCounts, InvalidPiles)):
                with self.desk.trial():
                    self.work(self.desk)
                    action()
            self.assertEqual(condition(self.desk), self.begun)

    def test_an_error_that_is_caught_inside_takes_nothing_back(self):
        with self.desk.trial():
            self.desk.add(3, ("gold",))
            self.raised(InvalidIndex, self.desk.count, 9, ())
        self.assertEqual([len(self.desk), condition(self.desk)[1:]], [3, self.begun])

    def test_undo_behind_the_beginning(self):
        with self.assertRaises(Halt):
            with self.desk.trial():
                self.desk.undo()
                self.raised(NothingToUndo, self.desk.undo)
                self.desk.add(1, ("red",))
                self.desk.add(1, ("red",))
                raise Halt
        self.assertEqual(condition(self.desk), self.begun)
        with self.desk.trial():
            self.desk.undo()
        self.assertEqual(condition(self.desk), self.begun[1:])

    def test_leaving_by_return_and_break_is_ending_well(self):
        def left():
            with self.desk.trial() as same:
                same.add(3, ("gold",))
                return 5

        self.assertEqual([left(), len(self.desk)], [5, 3])
        for _ in range(1):
            with self.desk.trial() as same:
                same.add(4, ("gold",))
                break
        self.assertEqual(len(self.desk), 4)

    def test_trials_within_trials(self):
        with self.desk.trial() as same:
            same.add(1, ("red",))
            middle = condition(self.desk)
            with self.assertRaises(Halt):
                with self.desk.trial():
                    same.undo()
                    same.undo()
                    same.add(2, ("red",))
                    raise Halt
            self.assertEqual(condition(self.desk), middle)
            with same.trial():
                same.add(3, ("red",))
        self.assertEqual(condition(self.desk)[2:], self.begun)
        with self.assertRaises(Halt):
            with self.desk.trial():
                with self.desk.trial():
                    self.desk.undo()
                self.desk.undo()
                raise Halt
        self.assertEqual(condition(self.desk)[2:], self.begun)

    def test_one_object_within_itself(self):
        for inner, outer in ((False, False), (False, True), (True, False), (True, True)):
            desk = Desk(night_with())
            seen = [condition(desk)]
            trial = desk.trial()
            try:
                with trial as same:
                    same.add(1, ("red",))
                    seen.append(condition(desk))
                    try:
                        with trial as again:
                            self.assertIs(again, desk)
                            again.count(0, (0, 0))
                            seen.append(condition(desk))
                            with trial:
                                again.undo()
                                again.undo()
                                seen.append(condition(desk))
                            if inner:
                                raise Halt
                    except Halt:
                        pass
                    self.assertEqual(condition(desk), seen[1] if inner else seen[3])
                    if outer:
                        raise Halt
            except Halt:
                pass
            self.assertEqual(condition(desk), seen[0] if outer else seen[1] if inner else seen[3])

    def test_one_object_several_times(self):
        trial = self.desk.trial()
        for size in (1, 2):
            with trial:
                self.desk.add(size, ("red",))
            told = condition(self.desk)
            with self.assertRaises(Halt):
                with trial:
                    self.desk.undo()
                    self.desk.undo()
                    raise Halt
            self.assertEqual(condition(self.desk), told)
        self.desk.undo()
        self.desk.undo()
        self.assertEqual(condition(self.desk), self.begun)

    def test_the_beginning_is_where_the_rows_begin(self):
        trial = self.desk.trial()
        self.desk.add(3, ("gold",))
        told = condition(self.desk)
        with self.assertRaises(Halt):
            with trial:
                self.desk.undo()
                raise Halt
        self.assertEqual(condition(self.desk), told)

    def test_two_desks(self):
        other = Desk(sample())
        with self.assertRaises(Halt):
            with self.desk.trial(), other.trial() as same:
                self.assertIs(same, other)
                other.count(0, (1, 1))
                self.desk.undo()
                raise Halt
        self.assertEqual([condition(self.desk), other.night], [self.begun, sample()])
        with self.assertRaises(Halt):
            with self.desk.trial():
                other.count(0, (1, 1))
                raise Halt
        self.assertEqual([condition(self.desk), len(other)], [self.begun, 0])

    def test_tried(self):
        value = object()

        def action(same):
            self.assertIs(same, self.desk)
            self.work(same)
            return value

        self.assertIs(self.desk.tried(action), value)
        self.assertEqual(condition(self.desk)[2:], self.begun)
        self.assertIs(self.desk.tried(action=lambda same: value), value)
        self.assertIsNone(self.desk.tried(Desk.undo))
        self.assertIsNone(self.desk.tried(lambda same: same.undo()))
        self.assertEqual(condition(self.desk), self.begun)
        self.assertEqual(self.desk.tried(len), 2)

    def test_tried_with_an_error(self):
        error = Halt()

        def action(same):
            same.undo()
            self.work(same)
            raise error

        with self.assertRaises(Halt) as caught:
            self.desk.tried(action)
        self.assertIs(caught.exception, error)
        self.assertEqual(condition(self.desk), self.begun)
        self.raised(InvalidIndex, self.desk.tried, lambda same: same.count(9, ()))
        self.assertEqual(condition(self.desk), self.begun)

    def test_tried_within_tried(self):
        def inner(same):
            same.undo()
            raise Halt

        def outer(same):
            same.add(3, ("gold",))
            with self.assertRaises(Halt):
                same.tried(inner)
            return len(same)

        self.assertEqual(self.desk.tried(outer), 3)
        self.assertEqual(condition(self.desk)[1:], self.begun)


class NestingTest(DeskCase):
    """Trials of many nestings; `past` is the row of all nights of the desk, by the sizes of their piles."""

    def rows(self, source, desk, past, trials, level):
        """Does something at the desk, also in trials, and returns its nights behind that."""
        for _ in range(source.randint(1, 4)):
            what = source.choice(("add", "undo", "trial", "trial"))
            if what == "add" and len(desk) < 6:
                desk.add(len(past), ("a",))
                past = past + (past[-1] + (len(past),),)
            elif what == "undo" and len(past) > 1:
                desk.undo()
                past = past[:-1]
            elif what == "undo":
                self.raised(NothingToUndo, desk.undo)
            elif what == "trial" and level < 5:
                past = self.within(source, desk, past, trials, level)
            self.assertEqual(tuple(size for size, _ in desk.night.piles), past[-1])
        return past

    def within(self, source, desk, past, trials, level):
        bad = source.random() < 0.5
        try:
            with source.choice(trials + [desk.trial()]) as same:
                self.assertIs(same, desk)
                behind = self.rows(source, desk, past, trials, level + 1)
                if bad:
                    raise Halt
        except Halt:
            return past
        self.assertFalse(bad)
        return behind

    def test_trials_of_few_objects(self):
        for seed in range(300):
            source = random.Random(seed)
            desk = Desk(Night((1,), (("a", 0),)))
            trials = [desk.trial() for _ in range(seed % 3)]
            past = self.rows(source, desk, ((),), trials, 0)
            past = self.rows(source, desk, past, trials, 0)
            for sizes in reversed(past):
                self.assertEqual(tuple(size for size, _ in desk.night.piles), sizes)
                if sizes:
                    desk.undo()
            self.raised(NothingToUndo, desk.undo)

    def test_rows_that_end_in_another_order(self):
        def adding(desk, trial, size):
            with trial:
                desk.add(size, ("a",))
                yield

        desk = Desk(Night((1,), (("a", 0),)))
        first, second = adding(desk, desk.trial(), 1), adding(desk, desk.trial(), 2)
        next(first)
        next(second)
        self.assertEqual(len(desk), 2)
        self.assertRaises(Halt, first.throw, Halt())
        self.assertEqual(len(desk), 0)
        self.assertRaises(Halt, second.throw, Halt())
        self.assertEqual(desk.night.piles, ((1, ("a",)),))
