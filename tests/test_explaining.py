"""[8] (B1), (B3), [25], [27] to [29]: explaining."""
import itertools
import random

from lotback.errors import InvalidPaper
from lotback.explainchecker import lets_explain
from lotback.explaining import barrier_by, explain_paper, is_explained, story_by, story_of
from lotback.points import is_barrier, points_of
from lotback.stories import guilty_of, is_story, lets_story
from tests.common import BOOK, CASE, LONG, ODD, PURE, Exact
from tests.model import LOTS, lot_sets, model_stories, random_case

GOOD = ((2,), (0,), (1,), (0,), (0,), (1, 0))
WALL = (("in", 4), ("in", 5), ("out", 2), ("out", 4))


class Explaining(Exact):
    def confirmed(self, case, lots):
        """Either a story or a barrier, confirmed by the checkers; tells whether it is a story."""
        story = story_by(case, lots)
        points = barrier_by(case, lots)
        self.exactly((story is None) + (points is None), 1)
        paper = explain_paper(case, lots)
        self.exactly(paper, ("barrier", points) if story is None else ("story", story))
        self.exactly(lets_explain(case, lots, paper), story is not None)
        if story is None:
            self.exactly(is_barrier(case, lots, points), True)
            return False
        lets_story(case, story)
        self.assertLessEqual(set(guilty_of(case, story)), set(lots))
        return True

    def explained(self, case, possible):
        story = story_of(case)
        self.exactly(is_explained(case), possible)
        self.exactly(story is not None, possible)
        if possible:
            self.exactly(is_story(case, story), True)

    def test_a_story_or_a_barrier(self):
        """(B1), with all stories told by the model."""
        for seed in range(250):
            case = random_case(seed, 1 + seed % 7, 2)
            guilty = {guilty_of(case, story) for story in model_stories(case)}
            for lots in lot_sets(case):
                self.exactly(self.confirmed(case, lots), any(set(some) <= set(lots) for some in guilty))
            self.explained(case, len(guilty) > 0)

    def test_many_findings(self):
        for seed in range(150):
            case = random_case(seed + 900, 8, 2, findings=8)
            case = (*case[:2], tuple(LOTS), 1 + seed % 3)
            guilty = {guilty_of(case, story) for story in model_stories(case)}
            for lots in lot_sets(case):
                self.exactly(self.confirmed(case, lots), any(set(some) <= set(lots) for some in guilty))
            self.explained(case, len(guilty) > 0)

    def test_large_books(self):
        """Sixteen rows of twenty units, eight findings; (B3) with other suspects, few and findings."""
        told = set()
        for seed in range(150):
            case = random_case(seed + 77, 16, 20, findings=8)
            book, findings, suspects, few = case
            answers = {lots: self.confirmed(case, lots) for lots in lot_sets(case)}
            told |= set(answers.values())
            self.explained(case, any(answers.values()))
            for lots, possible in answers.items():
                if possible:
                    self.exactly(self.confirmed((book, findings, tuple(LOTS), few), lots), True)
                    self.exactly(self.confirmed((book, findings, suspects, few + 1), lots), True)
                    self.exactly(self.confirmed((book, findings[1:], suspects, few), lots), True)
                for more in lot_sets(case):
                    if set(lots) <= set(more):
                        self.exactly(possible and not answers[more], False)
        self.exactly(told, {False, True})

    def test_beyond_the_limits(self):
        case = random_case(3, 200, 30, findings=12)
        case = (*case[:2], tuple(LOTS), 3)
        for lots in lot_sets(case)[:8]:
            self.confirmed(case, lots)
        self.exactly(is_explained(case), story_of(case) is not None)
        lots = tuple(sorted("lot" + letter for letter in "abcdefghijklmnopqrstuvwxyz"))
        places = tuple(("p" + letter, kind) for letter, kind in zip("abcdefgh", ["heap", "pipe"] * 4))
        rows = [("come", places[k % 8][0], lot, 10 ** 59 + k) for k, lot in enumerate(lots)]
        sales = [("sell", place, 10 ** 59 + 3) for place, _ in places]
        book = (places, (*rows, *sales))
        for bad, few, possible in [((26, 29, 33), 3, True), ((26, 27, 28, 29), 3, False), ((26, 27, 28, 29), 4, True)]:
            case = (book, tuple(("bad", t) for t in bad), lots, few)
            self.explained(case, possible)
        self.confirmed(case, lots[:4])

    def test_a_greatest_set_is_needed(self):
        """Three parcels were found bad that have no lot in common: so few has to be 3."""
        places = (("tank", "heap"), ("tin", "heap"), ("vat", "heap"))
        rows = tuple(("come", place, lot, 2) for place, lot in [("tank", "ash"), ("tin", "birch"), ("vat", "cedar"), ("vat", "elm")])
        sales = (("sell", "tank", 1), ("sell", "tin", 1), ("sell", "vat", 3))
        book = (places, rows + sales)
        for few in (0, 1, 2, 3, 4):
            case = (book, (("bad", 4), ("bad", 5), ("bad", 6)), tuple(LOTS), few)
            self.explained(case, few >= 3)

    def test_no_findings(self):
        self.explained((BOOK, (), (), 0), True)
        self.explained((((("tank", "heap"),), ()), (), (), 0), True)
        self.exactly(story_of((((("tank", "heap"),), ()), (), (), 0)), ())
        self.explained((LONG, (), tuple(LOTS), 3), True)

    def test_by_name(self):
        self.exactly(story_by(case=PURE, lots=("ash",)), None)
        self.exactly(is_barrier(PURE, ("ash",), barrier_by(case=PURE, lots=("ash",))), True)
        self.exactly(barrier_by(case=PURE, lots=("cedar",)), None)
        self.exactly((is_explained(case=PURE), story_of(case=PURE)), (True, story_of(PURE)))
        self.exactly(explain_paper(case=PURE, lots=("cedar",)), ("story", story_by(PURE, ("cedar",))))
        self.exactly(lets_explain(case=PURE, lots=("ash",), thing=("barrier", WALL)), False)

    def test_arguments_are_not_changed(self):
        for case in (CASE, PURE):
            for call in (story_by, barrier_by, explain_paper):
                self.told(call(case, ("ash",)), call, case, ("ash",))
            for call in (story_of, is_explained):
                self.told(call(case), call, case)


class Checker(Exact):
    def refused(self, word, at, case, lots, thing):
        self.raising(InvalidPaper(word, at), lets_explain, case, lots, thing)
        self.raising(InvalidPaper(word, at), lets_explain, case=case, lots=lots, thing=thing)

    def test_accepted(self):
        self.told(True, lets_explain, CASE, ("ash",), ("story", GOOD))
        self.told(False, lets_explain, PURE, ("ash",), ("barrier", WALL))
        self.told(False, lets_explain, CASE, (), ("barrier", (
            ("heap", "tank", 0), ("heap", "tank", 1), ("in", 0), ("in", 1), ("in", 2), ("in", 4), ("in", 5),
            ("out", 0), ("out", 1), ("out", 2), ("out", 4))))

    def test_shape(self):
        for thing in [*ODD, GOOD, ("story",), ("story", GOOD, ()), ["story", GOOD], ("story", list(GOOD)), ("story", None),
                      ("barrier", list(WALL)), ("barrier", None), ("Story", GOOD), (GOOD, "story"), ("wall", WALL), ("", ()),
                      (None, ()), (True, ()), (("story",), GOOD), (["story"], GOOD), ("barrier", "points")]:
            self.refused("shape", -1, CASE, ("ash",), thing)

    def test_errors_of_stories(self):
        for word, at, story in [
                ("shape", -1, (1,)), ("shape", -1, (*GOOD[:5], (True, 0))), ("many", -1, ()), ("many", -1, GOOD[:5]),
                ("parts", 5, (*GOOD[:5], (1,))), ("part", (0, 0), ((5,), *GOOD[1:])), ("rest", (5, 0), (*GOOD[:5], (2, 0))),
                ("lot", 1, ((2,), (1,), *GOOD[2:])), ("finding", 5, ((1,), (0,), (0,), (0,), (0,), (0, 0))),
                ("few", -1, (*GOOD[:4], (1,), (1, 0)))]:
            self.refused(word, at, CASE, ("ash",), ("story", story))
            self.refused(word, at, CASE, (), ("story", story))
        book = (BOOK[0], (*BOOK[1], ("back", 5, "tank")))
        self.refused("same", (6, 0), (book, *CASE[1:]), ("ash",), ("story", (*GOOD, (0,))))

    def test_guilty(self):
        self.refused("guilty", 0, CASE, (), ("story", GOOD))
        self.refused("guilty", 0, CASE, ("cedar",), ("story", GOOD))
        both = (*CASE[:3], 2)
        story = ((2,), (0,), (1,), (0,), (1,), (1, 0))
        self.refused("guilty", 4, both, ("ash",), ("story", story))
        self.refused("guilty", 0, both, (), ("story", story))
        self.told(True, lets_explain, both, ("ash", "cedar"), ("story", story))

    def test_point(self):
        for odd in [*ODD, (), ("in", 6), ("in", True), ["in", 1], ("heap", "tank", 4), ("heap", "line", 0), None]:
            self.refused("point", 0, PURE, ("ash",), ("barrier", (odd,)))
            self.refused("point", 4, PURE, ("ash",), ("barrier", (*WALL, odd, odd)))
        self.refused("point", 1, PURE, ("ash",), ("barrier", WALL[::-1]))
        self.refused("point", 2, PURE, ("ash",), ("barrier", (*WALL[:2], WALL[1], *WALL[2:])))
        self.refused("point", 1, PURE, ("ash",), ("barrier", (("in", 5), ("in", 4), ("in", 99))))

    def test_open(self):
        self.refused("open", -1, PURE, ("ash",), ("barrier", ()))
        self.refused("open", -1, PURE, ("cedar",), ("barrier", WALL))
        self.refused("open", -1, PURE, ("ash",), ("barrier", WALL[1:]))
        self.refused("open", -1, CASE, ("ash",), ("barrier", points_of(BOOK)))

    def test_papers_of_others(self):
        """What is accepted is true, whoever wrote it: sets of points and stories by chance."""
        dice = random.Random(9)
        accepted = 0
        for seed in range(120):
            case = random_case(seed, 4, 2)
            stories = model_stories(case)
            points = points_of(case[0])
            for lots in itertools.islice(lot_sets(case), 5):
                by_lots = {story for story in stories if set(guilty_of(case, story)) <= set(lots)}
                for _ in range(20):
                    some = tuple(sorted(dice.sample(points, dice.randint(0, len(points)))))
                    try:
                        self.exactly(lets_explain(case, lots, ("barrier", some)), False)
                        self.exactly(len(by_lots), 0)
                        accepted += 1
                    except InvalidPaper as error:
                        self.exactly((error.word, error.at), ("open", -1))
                for story in itertools.islice(stories, 20):
                    try:
                        self.exactly(lets_explain(case, lots, ("story", story)), True)
                        self.assertIn(story, by_lots)
                    except InvalidPaper as error:
                        self.exactly(error.word, "guilty")
                        self.assertNotIn(story, by_lots)
        self.assertGreater(accepted, 20)
