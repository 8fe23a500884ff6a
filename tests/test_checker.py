import itertools
import random

from restballots.certificates import certify_bloc, certify_far, certify_near, certify_rules, certify_table
from restballots.checker import accepts
from restballots.errors import InvalidText
from restballots.limits import MOST_COUNT
from restballots.nights import Night
from tests import oracle, papers
from tests.samples import TEXT, CloseTest, nested, odd_values, sample

BARS = ((("blue", (30, 1)),), ("red",))
MAKES = (((0, 7),), (25, 1))
ROWS = [(1,), (5,), (1, 2), (1, 3), (2, 4), (2, 3), (1, 2, 3), (2, 4, 6), (1, 3, 5), (2, 4, 7), (1, 2, 3, 4, 5), (2, 4, 7, 8, 10)]


def all_papers(night, source):
    """Claims on the night, with their certificates, of all words that there are."""
    found = [certify_table(night, table) for table in night.tables()]
    found += [certify_near(night, table) for table in night.tables()] + [certify_far(night, table) for table in night.tables()]
    for bloc in oracle.groups(night.names):
        found += [certify_bloc(night, bloc, seats) for seats in range(night.seats + 1)]
    return [pair for pair in found if pair is not None]


def other_claims(source, claim):
    """The claim with other numbers, other words."""
    word, *told = claim
    if word in ("can", "barred"):
        return [("can", *told), ("barred", *told)]
    if word in ("sure", "never"):
        seats = source.choice([0, 1, 2, 3])
        return [("sure", *told), ("never", *told), (word, told[0], told[1], seats)]
    return [(word, told[0], told[1], many) for many in (told[2] - 1, told[2] + 1, 0)] + [("near", *told), ("far", *told)]


class CheckerCase(CloseTest):
    def agrees(self, claim, paper):
        """The answer is that of point 16."""
        told = papers.is_right(claim, paper)
        self.assertIs(accepts(claim, paper), told, (claim, paper))
        return told

    def refuses(self, claim, paper):
        self.assertIs(accepts(claim, paper), False, (claim, paper))
        self.assertIs(papers.is_right(claim, paper), False)

    def takes(self, claim, paper):
        self.assertIs(accepts(claim, paper), True, (claim, paper))
        self.assertIs(papers.is_right(claim, paper), True)


class AllTest(CheckerCase):
    def test_accepts_all_papers_of_small_nights(self):
        source = random.Random(81)
        for night in oracle.small_nights(81, 40):
            for claim, paper in all_papers(night, source):
                self.takes(claim, paper)
                self.assertTrue(papers.is_true(claim))

    def test_papers_with_a_part_changed(self):
        source = random.Random(82)
        seen = {}
        for night in oracle.small_nights(82, 60):
            every = all_papers(night, source)
            for claim, paper in source.sample(every, min(len(every), 25)):
                for _ in range(12):
                    other = papers.with_another_part(source, paper)
                    if self.agrees(claim, other):
                        self.assertTrue(papers.is_true(claim))
                    told = papers.with_another_part(source, claim)
                    seen.setdefault(claim[0], set()).add(self.agrees(told, paper))
        self.assertEqual(seen["can"] | seen["near"] | seen["far"], {True, False})

    def test_what_is_accepted_is_true(self):
        source = random.Random(83)
        accepted = 0
        nights = oracle.small_nights(83, 40)
        for night in nights:
            other = oracle.other_night(source, night)
            every = all_papers(night, source)
            beside = every + all_papers(other, source)
            for claim, paper in source.sample(every, min(len(every), 12)):
                for told in [claim] + other_claims(source, claim):
                    for _, wrong in source.sample(beside, min(len(beside), 8)) + [(None, paper)]:
                        if self.agrees(told, wrong):
                            accepted += 1
                            self.assertTrue(papers.is_true(told))
        self.assertGreater(accepted, 400)

    def test_papers_of_another_night(self):
        source = random.Random(84)
        accepted = 0
        for night in oracle.small_nights(84, 40):
            other = oracle.other_night(source, night)
            for (claim, paper) in all_papers(other, source)[:60]:
                told = (claim[0], str(night), *claim[2:])
                if self.agrees(told, paper):
                    accepted += 1
                    self.assertTrue(papers.is_true(told))
        self.assertGreater(accepted, 100)

    def test_rules(self):
        source = random.Random(85)
        for one, other in itertools.product(ROWS, repeat=2):
            if len(one) == len(other):
                for many in range(2, 7):
                    claim, paper = certify_rules(one, other, many)
                    self.takes(claim, paper)
                    self.assertTrue(papers.is_true(claim))
                    opposite = ("parted" if claim[0] == "alike" else "alike",) + claim[1:]
                    for value in (paper, (), ((0,) * many, (len(one),) + (0,) * (many - 1)), (one[:many], other[:many])):
                        self.refuses(opposite, value)
                    for _ in range(6):
                        self.agrees(claim, papers.with_another_part(source, paper))
                        self.agrees(papers.with_another_part(source, claim), paper)

    def test_neither_claim_nor_paper(self):
        right = [(("can", TEXT, (1, 1, 1)), MAKES), (("barred", TEXT, (2, 0, 1)), BARS), certify_bloc(sample(), ("red",), 1),
                 certify_bloc(sample(), ("red",), 3), certify_near(sample(), (1, 1, 1)), certify_far(sample(), (1, 2, 0)),
                 certify_rules((1, 2), (1, 3), 2), certify_rules((1, 2), (2, 4), 3)]
        odd = odd_values() + ["cannot", ("can",), [1], {"can": 1}, {1: {2: [3]}}, nested(8), [sample()], InvalidText("x"), Night.read, accepts,
                              -1, (1, 2, 3), ("can", TEXT, (1, 1, 2)), "x" * 8000]
        for value in odd:
            for claim, paper in right:
                self.assertIs(accepts(value, paper), False)
                self.assertIs(accepts(claim, value), False)
            for other in odd:
                self.assertIs(accepts(value, other), False)
        for claim, paper in right:
            self.takes(claim, paper)
            self.assertIs(accepts(certificate=paper, claim=claim), True)
            self.refuses(list(claim), paper)
            self.refuses(claim, list(paper))
            self.refuses(claim + (None,), paper)
            self.refuses(claim + (1,), paper)
            self.refuses(claim[:-1], paper)
            self.refuses(claim[:2], paper)
            self.refuses(claim[:1], paper)
            for place in range(len(claim)):
                for value in odd:
                    self.assertIs(accepts(claim[:place] + (value,) + claim[place + 1:], paper), False)
            for place in range(len(paper)):
                for value in odd:
                    self.assertIs(accepts(claim, paper[:place] + (value,) + paper[place + 1:]), False)
            for word in ("Can", "can ", "", "cannot", "like", "may", "bar"):
                self.refuses((word,) + claim[1:], paper)

    def test_papers_with_odd_values_in_them(self):
        for claim, paper in [(("can", TEXT, (1, 1, 1)), MAKES), (("barred", TEXT, (2, 0, 1)), BARS), certify_near(sample(), (1, 1, 1)),
                             certify_bloc(sample(), ("red",), 1), certify_far(sample(), (1, 2, 0)), certify_rules((1, 2), (1, 3), 2)]:
            for value in odd_values():
                for wrong in self.everywhere(paper, value):
                    self.assertIs(accepts(claim, wrong), False)

    def everywhere(self, paper, value):
        """All papers with the value in the place of one of its parts, at any depth."""
        found = [value]
        if isinstance(paper, tuple):
            for place, part in enumerate(paper):
                found += [paper[:place] + (inner,) + paper[place + 1:] for inner in self.everywhere(part, value)]
        return found

    def test_nothing_passed_is_changed(self):
        claim, paper = ["can", TEXT, [1, 1, 1]], [[[0, 7]], [25, 1]]
        self.assertIs(accepts(claim, paper), False)
        self.assertIs(accepts(tuple(claim), tuple(paper)), False)
        self.assertEqual([claim, paper], [["can", TEXT, [1, 1, 1]], [[[0, 7]], [25, 1]]])


class TextTest(CheckerCase):
    def test_texts(self):
        wrong = [TEXT + " ", " " + TEXT, TEXT + "\n", TEXT.replace("red", "red "), TEXT.replace("50", "050"), TEXT.replace("1 2 3", "1 2 2"),
                 TEXT.replace("1 2 3", "1 2 101"), TEXT.replace("blue gold", "gold blue"), TEXT.replace("20", "1000001"), "", "x", TEXT.upper(),
                 sample(), TEXT.encode(), (TEXT,), [TEXT], None, 1]
        for claim, paper in [(("can", TEXT, (1, 1, 1)), MAKES), (("barred", TEXT, (2, 0, 1)), BARS), certify_bloc(sample(), ("red",), 1),
                             certify_near(sample(), (1, 1, 1)), certify_far(sample(), (1, 2, 0)), certify_bloc(sample(), ("red",), 3)]:
            for text in wrong:
                self.refuses((claim[0], text) + claim[2:], paper)


class CanTest(CheckerCase):
    claim = ("can", TEXT, (1, 1, 1))

    def test_right(self):
        for paper in (MAKES, (((1, 7),), (25, 1)), (((13, 7),), (25, 1)), (((0, 20),), (30, 1)), (((0, 8),), (51, 2)), (((0, 20),), (76, 3))):
            self.takes(self.claim, paper)

    def test_prices(self):
        for price in [(24, 1), (26, 1), (50, 2), (25, -1), (-25, -1), (-25, 1), (25, 0), (0, 1), (25,), (25, 1, 1), [25, 1], 25, (True, 1),
                      (25, True), ("25", 1), None, (), (10 ** 39, 1), (249999, 10000), (250001, 10000)]:
            self.refuses(self.claim, (((0, 7),), price))

    def test_the_price_0(self):
        night = Night((1, 2), (("a", 0), ("b", 0)), ((3, ("a", "b")),))
        self.takes(("can", str(night), (1, 1)), (((0, 0),), (0, 1)))
        for price in ((0, 2), (0, 0), (0, -1), (False, 1), (0, True), (-0, 5), (-1, 1)):
            self.refuses(("can", str(night), (1, 1)), (((0, 0),), price))
        self.refuses(("can", str(night), (1, 1)), (((1, 0),), (0, 1)))
        self.takes(("can", str(night), (1, 1)), (((1, 1),), (1, 1)))
        self.takes(("can", str(night), (2, 0)), (((3, 0),), (0, 1)))
        self.refuses(("can", str(night), (1, 1)), (((2, 2),), (1, 1)))

    def test_ballots(self):
        for ballots in [((0, 21),), ((14, 7),), ((0, 6),), ((-1, 8),), ((0, 7, 0),), ((7,),), ((),), (), ((0, 7), (0, 0)), ([0, 7],), [(0, 7)],
                        ((False, 7),), ((0, "7"),), (0, 7), ((0, (7,)),), None, ((0, 10 ** 39),), (((0, 7),),)]:
            self.refuses(self.claim, (ballots, (25, 1)))

    def test_other_tables(self):
        for table in ((1, 2, 0), (2, 0, 1), (0, 0, 3), (1, 1, 2), (1, 1), (1, 1, 1, 0), [1, 1, 1], (True, 1, 1), (1, 1, True), (3, 1, -1), (), None):
            self.refuses(("can", TEXT, table), MAKES)
        self.takes(("can", TEXT, (2, 1, 0)), (((0, 0),), (25, 1)))
        self.takes(("can", TEXT, (2, 1, 0)), (((0, 7),), (25, 1)))

    def test_no_piles(self):
        text = "divisors 1 2\nparty a 6\nparty b 3"
        self.takes(("can", text, (1, 1)), ((), (3, 1)))
        self.takes(("can", text, (2, 0)), ((), (3, 1)))
        for ballots in (((),), ((0,),), [], None):
            self.refuses(("can", text, (1, 1)), (ballots, (3, 1)))

    def test_counts_that_no_night_has(self):
        night = Night((1, 2), (("a", MOST_COUNT), ("b", MOST_COUNT)), ((MOST_COUNT, ("a",)), (MOST_COUNT, ("b",))))
        self.takes(("can", str(night), (1, 1)), (((MOST_COUNT,), (MOST_COUNT,)), (MOST_COUNT, 1)))


class BarredTest(CheckerCase):
    claim = ("barred", TEXT, (2, 0, 1))

    def test_right(self):
        for paper in (BARS, ((("gold", (9, 1)), ("blue", (30, 1))), ("red",)), ((("red", (50, 3)), ("blue", (30, 1))), ("red",))):
            self.takes(self.claim, paper)

    def test_steps(self):
        for steps in [(), (("blue", (29, 1)),), (("blue", (31, 1)),), (("blue", (60, 2)),), (("gold", (30, 1)),), (("red", (30, 1)),), ((("blue"),),),
                      (("blue", 30),), (("blue", (30, 1), 1),), (["blue", (30, 1)],), (("blue", [30, 1]),), [("blue", (30, 1))], ("blue", (30, 1)),
                      (("green", (30, 1)),), (("blue", (30, 1)), ("blue", (30, 1))), (("blue", (30, 1)), ("gold", (9, 1))), None, ((0, (30, 1)),),
                      (("blue", (30, True)),), (("blue", (30, 0)),), (("blue", (-30, -1)),), (("blue", (30, 1)), ("blue", (15, 1)))]:
            self.refuses(self.claim, (steps, ("red",)))

    def test_steps_begin_at_0(self):
        night = Night((1, 2), (("a", 6), ("b", 4), ("c", 0)))
        claim = ("barred", str(night), (0, 1, 1))
        self.takes(claim, ((("a", (6, 1)),), ("b",)))
        self.takes(claim, ((("b", (2, 1)), ("a", (6, 1))), ("b",)))
        self.refuses(claim, ((("b", (3, 1)), ("a", (6, 1))), ("b",)))
        self.refuses(claim, ((("b", (3, 1)),), ("c",)))
        self.takes(claim, ((("b", (2, 1)),), ("c",)))
        self.refuses(claim, ((("a", (6, 1)), ("b", (2, 1))), ("c",)))

    def test_a_party_with_all_seats_has_no_step(self):
        text = "divisors 1 2\nparty a 9\nparty b 1"
        self.refuses(("barred", text, (2, 0)), ((("a", (9, 1)),), ("b",)))
        self.refuses(("far", text, (2, 0), 0), (("a", (9, 1)),))
        self.takes(("far", text, (2, 0), 0), (("b", (1, 1)),))

    def test_blocs(self):
        for bloc in [(), ("blue",), ("gold",), ("blue", "gold"), ("red", "blue"), ("red", "red"), ("green",), ("red", "zz"), ["red"], "red",
                     ("Red",), None, ("red", None), (0,)]:
            self.refuses(self.claim, (BARS[0], bloc))
        self.takes(self.claim, (BARS[0], ("blue", "gold", "red")))
        self.takes(("barred", TEXT.replace("20", "0"), (1, 1, 1)), ((("red", (25, 1)),), ("gold",)))
        self.takes(("barred", TEXT.replace("20", "0"), (1, 1, 1)), ((("red", (25, 1)),), ("blue", "gold", "red")))

    def test_more_than_the_piles(self):
        for size, right in ((6, True), (7, False), (8, False)):
            claim = ("barred", TEXT.replace("pile 20", f"pile {size}"), (1, 1, 1))
            for bloc in (("gold",), ("blue", "gold"), ("gold", "red"), ("blue", "gold", "red")):
                self.assertIs(accepts(claim, ((("red", (25, 1)),), bloc)), right)
        several = TEXT.replace("pile 20 blue gold", "pile 3 blue gold\npile 3 gold\npile 50 red")
        self.takes(("barred", several, (1, 1, 1)), ((("red", (25, 1)),), ("gold",)))
        self.refuses(("barred", several, (1, 1, 1)), ((("red", (25, 1)),), ("gold", "red")))

    def test_without_steps_nothing_is_barred(self):
        for table in sample().tables():
            for bloc in oracle.groups(("red", "blue", "gold")):
                self.refuses(("barred", TEXT, table), ((), bloc))


class BlocTest(CheckerCase):
    def setUp(self):
        self.night = sample()
        self.sure = certify_bloc(self.night, ("red",), 1)
        self.never = certify_bloc(self.night, ("red",), 3)

    def test_by_hand(self):
        self.assertEqual([self.sure[0], self.never[0]], [("sure", TEXT, ("red",), 1), ("never", TEXT, ("red",), 3)])
        self.assertEqual([len(self.sure[1]), len(self.never[1])], [4, 1])
        self.takes(*self.sure)
        self.takes(*self.never)

    def test_tables(self):
        claim, paper = self.sure
        spare = certify_table(self.night, (3, 0, 0))
        more = ((3, 0, 0), spare[1])
        wrong = [paper[1:], paper[:-1], paper[::-1], paper + paper[-1:], paper[:1] + paper, paper + (more,), (more,) + paper, (), paper[:2] + paper[3:],
                 paper[1:2] + paper[:1] + paper[2:], paper[:3] + (more,), tuple(table for table, _ in paper), tuple(bars for _, bars in paper),
                 paper[:3] + (list(paper[3]),), paper[:3] + ((list(paper[3][0]), paper[3][1]),), paper[:3] + (paper[3] + (1,),), list(paper),
                 ((paper[0][0], paper[2][1]),) + paper[1:], paper[:3] + ((paper[3][0], ((), ("red",))),), None]
        for value in wrong:
            self.refuses(claim, value)
            self.refuses(("never", *claim[1:]), value)

    def test_other_claims(self):
        for (word, text, bloc, seats), paper in (self.sure, self.never):
            for told in [("never" if word == "sure" else "sure", text, bloc, seats), (word, text, bloc, seats + 1), (word, text, bloc, seats - 1),
                         (word, text, ("blue",), seats), (word, text, ("blue", "red"), seats), (word, text, list(bloc), seats),
                         (word, text, (), seats), (word, text, ("green",), seats), (word, text, "red", seats), (word, text, bloc, True),
                         (word, text, bloc, -1), (word, text, bloc, 4), (word, text, bloc, None), (word, text, bloc, str(seats))]:
                self.refuses(told, paper)

    def test_no_table_at_all(self):
        for bloc in oracle.groups(self.night.names):
            self.takes(("sure", TEXT, bloc, 0), ())
            self.refuses(("never", TEXT, bloc, 0), ())
            for value in ([], None, ((),), "", 0, {}):
                self.refuses(("sure", TEXT, bloc, 0), value)
        whole = ("blue", "gold", "red")
        for seats in range(4):
            self.takes(("sure", TEXT, whole, seats), ())
            self.refuses(("never", TEXT, whole, seats), ())
        self.refuses(("sure", TEXT, whole, 4), ())
        self.refuses(("never", TEXT, whole, 4), ())
        self.refuses(("never", TEXT, ("red",), 3), ())

    def test_true_in_a_table(self):
        night = Night((1, 2), (("a", 9), ("b", 1)))
        claim, paper = certify_bloc(night, ("a",), 2)
        self.assertEqual([table for table, _ in paper], [(0, 2), (1, 1)])
        self.takes(claim, paper)
        self.refuses(claim, (paper[0], ((True, 1), paper[1][1])))
        self.refuses(claim, (paper[0], ((1, True), paper[1][1])))
        self.refuses(claim, (((False, 2), paper[0][1]), paper[1]))


class NearTest(CheckerCase):
    def test_by_hand(self):
        claim = ("near", TEXT, (1, 1, 1), 7)
        self.takes(claim, ((0, 0, 7), (25, 1)))
        self.takes(("near", TEXT, (1, 1, 1), 10 ** 39), ((0, 0, 7), (25, 1)))
        self.takes(("near", TEXT, (0, 0, 3), 10 ** 20), ((0, 0, 10 ** 19), (50, 1)))
        self.takes(("near", TEXT, (1, 1, 1), 8), ((0, 1, 7), (25, 1)))
        for row in [(0, 0, 8), (0, 1, 7), (0, 0, 6), (0, 7), (0, 0, 7, 0), (7,), (), [0, 0, 7], (0, -1, 8), (0, False, 7), (0, 0, "7"), None, 7, ((0, 0, 7),)]:
            self.refuses(claim, (row, (25, 1)))
        for price in ((24, 1), (26, 1), (50, 2), (25, 0), (-25, -1), [25, 1], 25, None, (25, 1, 0), (25, True)):
            self.refuses(claim, ((0, 0, 7), price))
        for many in (6, 0, -1, True, None, "7", (7,), -(10 ** 39)):
            self.refuses(("near", TEXT, (1, 1, 1), many), ((0, 0, 7), (25, 1)))
        for paper in (((0, 0, 7),), ((0, 0, 7), (25, 1), 0), [(0, 0, 7), (25, 1)], (((0, 7),), (25, 1))):
            self.refuses(claim, paper)

    def test_the_number_0(self):
        self.takes(("near", TEXT, (2, 1, 0), 0), ((0, 0, 0), (20, 1)))
        self.refuses(("near", TEXT, (2, 1, 0), 0), ((0, 0, 1), (20, 1)))
        self.takes(("near", TEXT, (2, 1, 0), 1), ((0, 0, 1), (20, 1)))
        self.takes(("near", "divisors 1 2\nparty a 0\nparty b 0", (1, 1), 0), ((0, 0), (0, 1)))
        self.refuses(("near", TEXT, (2, 1, 0), False), ((0, 0, 0), (20, 1)))


class FarTest(CheckerCase):
    def test_by_hand(self):
        steps = (("red", (25, 1)),)
        for many in range(8):
            self.takes(("far", TEXT, (1, 1, 1), many), steps)
        for many in (8, 9, 10 ** 39, -1, True, False, None, "7", (7,)):
            self.refuses(("far", TEXT, (1, 1, 1), many), steps)
        for wrong in [(("red", (24, 1)),), (("red", (50, 2)),), (("red", (25, 1)), ("red", (25, 1))), [("red", (25, 1))], (steps,), (steps, ("red",)), None,
                      (("blue", (15, 1)),), (("gold", (9, 1)),), (("red", 25),)]:
            self.refuses(("far", TEXT, (1, 1, 1), 7), wrong)

    def test_the_number_0(self):
        for table in sample().tables():
            self.takes(("far", TEXT, table, 0), ())
            self.refuses(("far", TEXT, table, 1), ())
        self.takes(("far", TEXT, (1, 1, 1), 0), (("blue", (15, 1)),))

    def test_the_pile_is_nothing(self):
        self.takes(("far", TEXT.replace("pile 20", "pile 1000000"), (1, 1, 1), 7), (("red", (25, 1)),))


class RulesTest(CheckerCase):
    def test_alike(self):
        self.takes(("alike", (1, 2), (3, 6), 2), ())
        self.takes(("alike", (1, 2, 3, 4, 5), (2, 4, 7, 8, 10), 2), ())
        self.refuses(("alike", (1, 2, 3, 4, 5), (2, 4, 7, 8, 10), 3), ())
        self.refuses(("alike", (1, 2), (1, 3), 2), ())
        self.takes(("alike", (1,), (9,), 6), ())
        for paper in ([], None, ((),), "", 0, False, {}, ((1, 2), (1, 1))):
            self.refuses(("alike", (1, 2), (3, 6), 2), paper)

    def test_parted(self):
        claim = ("parted", (1, 2), (1, 3), 2)
        for paper in (((1, 2), (0, 2)), ((2, 5), (0, 2)), ((2, 5), (1, 1)), ((10 ** 20, 10 ** 20 * 2), (0, 2)), ((2, 1), (2, 0)), ((5, 2), (1, 1))):
            self.takes(claim, paper)
        for paper in [((1, 2), (1, 1)), ((1, 1), (1, 1)), ((0, 0), (1, 1)), ((1, 3), (0, 2)), ((1, 2), (2, 0)), ((1, 2, 0), (0, 2, 0)),
                      ((1, 2), (0, 2, 0)), ((1, 2, 0), (0, 2)), ((1, 2), (0, 1)), ((1, 2), (0, 3)), ((1, 2), [0, 2]), ([1, 2], (0, 2)),
                      [(1, 2), (0, 2)], ((True, 2), (0, 2)), ((1, 2), (False, 2)), ((-1, 2), (0, 2)), ((1, 2), (-1, 3)), ((1, 2), (0, 2), ()), (), None,
                      ((1, "2"), (0, 2)), ((1, 2),)]:
            self.refuses(claim, paper)
        self.takes(("parted", (1, 2), (1, 3), 3), ((1, 2, 0), (0, 2, 0)))
        self.refuses(("parted", (1, 2), (1, 3), 3), ((1, 2), (0, 2)))

    def test_claims(self):
        for word, paper, one, other, many in (("alike", (), (1, 2), (2, 4), 2), ("parted", ((1, 2), (0, 2)), (1, 2), (1, 3), 2)):
            for value in [(), (2, 1), (1, 1), (0, 1), (1, 101), [1, 2], (1,), (1, 2, 3), (True, 2), (1, None), "12", 2, None, tuple(range(1, 14))]:
                self.refuses((word, value, other, many), paper)
                self.refuses((word, one, value, many), paper)
                self.refuses((word, value, list(one), many), paper)
            for value in (1, 7, 0, -2, True, None, "2", (2,), 10 ** 39, 2 ** 64):
                self.refuses((word, one, other, value), paper)
