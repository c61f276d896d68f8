"""[35], [36], [7], [8] (B2): covers, floors and number papers."""
import itertools
import random

from lotback.errors import InvalidPaper, LotError, NotUsable
from lotback.explaining import story_by
from lotback.numberchecker import cover_worth, floor_worth, lets_number
from lotback.numberpapers import number_paper
from lotback.numbers import greatest_number, least_number
from lotback.points import points_of, ways_of
from lotback.stories import is_story
from tests.common import BOOK, CASE, MANY, ODD, PURE, Exact, with_changes
from tests.model import (LOTS, lot_sets, model_stories, number_by_model, random_case, sales_by_model, stories_by, subsets)

GOOD = ((2,), (0,), (1,), (0,), (0,), (1, 0))
BAD = ((4,), (0,), (4,), (0,), (0,), (4, 0))
COVER = (("in", 1), ("in", 2), ("in", 4), ("in", 5), ("out", 4), ("out", 5))
WIDE = (("heap", "tank", 1), ("in", 1), ("in", 2), ("in", 4), ("in", 5), ("out", 1), ("out", 2), ("out", 4), ("out", 5))
NO_POINTS = [*ODD, (), ("in", 6), ("in", True), ("out", False), ["in", 1], ("heap", "tank", 4), ("heap", "line", 0), ("heap", "tank"),
             ("in",), ("in", 1, 1), "in", ("In", 1), ("in", 10 ** 60), None]


def worth_of(case, sales, lots, points, word):
    """The worth as [7] tells it, way by way."""
    come = go = 0
    for one, other, least, greatest in ways_of(case, lots):
        sold = other is None and one[0] == "out" and one[1] in sales
        if other in points and one not in points:
            come += greatest if word == "cover" else least
        if one in points and other not in points and not (sold and word == "floor"):
            go += least if word == "cover" else greatest
    return come - go


class Worths(Exact):
    def test_the_examples(self):
        points = (("in", 4), ("in", 5), ("out", 4), ("out", 5))
        self.told(8, cover_worth, CASE, (5,), ("cedar",), points)
        self.told(8, cover_worth, case=CASE, sales=(5,), lots=("cedar",), thing=points)
        self.told(1, floor_worth, CASE, (5,), ("ash",), (("out", 5),))
        self.told(1, floor_worth, case=CASE, sales=(5,), lots=("ash",), thing=(("out", 5),))
        # With other sales the way out of ("out", 5) counts.
        self.told(-5, floor_worth, CASE, (3,), ("ash",), (("out", 5),))
        self.told(4, cover_worth, CASE, (5,), ("ash",), WIDE)

    def test_no_points(self):
        self.told(0, floor_worth, CASE, (3, 5), ("ash",), ())
        self.told(0, floor_worth, CASE, (), (), ())
        self.told(0, cover_worth, CASE, (), ("ash",), ())

    def test_any_points(self):
        dice = random.Random(2)
        for seed in range(120):
            case = random_case(seed, 1 + seed % 14, 4)
            points = points_of(case[0])
            sales = tuple(t for t in sales_by_model(case[0]) if dice.random() < 0.6)
            for lots in lot_sets(case)[-3:]:
                some = tuple(sorted(dice.sample(points, dice.randint(0, len(points)))))
                self.told(worth_of(case, sales, lots, some, "floor"), floor_worth, case, sales, lots, some)
                more = tuple(sorted({*some, *[("out", t) for t in sales]}))
                self.told(worth_of(case, sales, lots, more, "cover"), cover_worth, case, sales, lots, more)
                missing = [t for t in sales if ("out", t) not in some]
                if missing:
                    self.raising(InvalidPaper("sale", missing[0]), cover_worth, case, sales, lots, some)

    def test_all_sets_of_points(self):
        """(B2): the greatest number is the least worth of a cover, the least one the greatest worth of a floor."""
        tried = 0
        for seed in range(60):
            case = random_case(seed, 1 + seed % 4, 2)
            points = points_of(case[0])
            sales = sales_by_model(case[0])
            if len(points) > 10:
                continue
            for lots in lot_sets(case)[-2:]:
                if story_by(case, lots) is not None:
                    sets = subsets(points)
                    covers = [some for some in sets if all(("out", t) in some for t in sales)]
                    self.exactly(min(cover_worth(case, sales, lots, some) for some in covers), greatest_number(case, sales, lots))
                    self.exactly(max(floor_worth(case, sales, lots, some) for some in sets), least_number(case, sales, lots))
                    tried += len(sales) > 0
        self.assertGreater(tried, 8)

    def test_no_cover_is_worth_less_and_no_floor_more(self):
        dice = random.Random(3)
        for seed in range(60):
            case = random_case(seed, 8, 2)
            points = points_of(case[0])
            stories = model_stories(case)
            for lots in lot_sets(case)[-3:]:
                some = tuple(sorted(dice.sample(points, dice.randint(0, len(points)))))
                sales = sales_by_model(case[0])
                cover = tuple(sorted({*some, *[("out", t) for t in sales]}))
                for story in itertools.islice(stories_by(case, stories, lots), 10):
                    number = number_by_model(story, sales)
                    self.assertLessEqual(floor_worth(case, sales, lots, some), number)
                    self.assertGreaterEqual(cover_worth(case, sales, lots, cover), number)

    def test_errors(self):
        for call in (cover_worth, floor_worth):
            for odd in [odd for odd in ODD if not isinstance(odd, tuple)]:
                self.raising(InvalidPaper("points", -1), call, CASE, (5,), ("ash",), odd)
                self.raising(InvalidPaper("points", -1), call, case=CASE, sales=(), lots=(), thing=odd)
            for odd in NO_POINTS:
                self.raising(InvalidPaper("points", 0), call, CASE, (5,), ("ash",), (odd,))
                self.raising(InvalidPaper("points", 2), call, CASE, (5,), ("ash",), (("in", 4), ("in", 5), odd, odd))
                # Ahead of ("sale", 3), and behind what is right.
                self.raising(InvalidPaper("points", 6), call, CASE, (3, 5), ("ash",), (*COVER, odd))
            self.raising(InvalidPaper("points", 1), call, CASE, (5,), ("ash",), (("out", 5), ("out", 5)))
            self.raising(InvalidPaper("points", 1), call, CASE, (5,), ("ash",), (("out", 5), ("in", 5)))
            self.raising(InvalidPaper("points", 3), call, CASE, (5,), ("ash",), (("in", 1), ("out", 4), ("out", 5), ("in", 5), None))
        for points, sales, t in [(COVER, (3,), 3), (COVER, (3, 5), 3), ((), (3, 5), 3), ((("out", 3),), (3, 5), 5), ((("in", 5),), (5,), 5)]:
            self.raising(InvalidPaper("sale", t), cover_worth, CASE, sales, ("ash",), points)
            floor_worth(CASE, sales, ("ash",), points)

    def test_parameters(self):
        for call, thing in [(cover_worth, None), (cover_worth, ()), (floor_worth, None), (floor_worth, (None,)), (lets_number, None),
                            (lets_number, ("least", (), ())), (lets_number, ("greatest", ((9,),), None))]:
            self.wrong_lots(call, thing, ahead=((3,),))
            self.wrong_lots(call, thing, ahead=(None,))
            self.wrong_sales(call, (), thing)
            self.raising(NotUsable("lots", 0), call, CASE, [5], (None,), thing)

    def test_lots_by_which_there_is_no_story(self):
        """No NoStory: what is asked is the worth alone."""
        self.told(worth_of(PURE, (5,), (), COVER, "cover"), cover_worth, PURE, (5,), (), COVER)
        self.told(1, floor_worth, PURE, (5,), (), (("out", 5),))


class Papers(Exact):
    def confirmed(self, case, sales, lots):
        least, greatest = (number_paper(case, sales, lots, word) for word in ("least", "greatest"))
        self.exactly((least[0], greatest[0]), ("least", "greatest"))
        self.told(("least", least_number(case, sales, lots)), lets_number, case, sales, lots, least)
        self.told(("greatest", greatest_number(case, sales, lots)), lets_number, case=case, sales=sales, lots=lots, thing=greatest)
        return least, greatest

    def test_returned_ones_are_accepted(self):
        for seed in range(100):
            case = random_case(seed, 1 + seed % 16, 5)
            sales = sales_by_model(case[0])
            for lots in lot_sets(case):
                if story_by(case, lots) is not None:
                    for some in {(), sales, sales[:1], sales[1:]}:
                        self.confirmed(case, some, lots)

    def test_accepted(self):
        self.told(("greatest", 4), lets_number, CASE, (5,), ("ash",), ("greatest", BAD, WIDE))
        self.told(("least", 1), lets_number, CASE, (5,), ("ash",), ("least", GOOD, (("out", 5),)))
        self.told(("least", 0), lets_number, CASE, (3,), ("ash",), ("least", GOOD, ()))
        self.told(("greatest", 0), lets_number, CASE, (), ("ash",), ("greatest", GOOD, ()))

    def refused(self, word, at, thing, case=CASE, sales=(5,), lots=("ash",)):
        self.raising(InvalidPaper(word, at), lets_number, case, sales, lots, thing)

    def test_shape(self):
        for thing in [*ODD, GOOD, (), ("least",), ("least", GOOD), ("least", GOOD, (), ()), ["least", GOOD, ()], ("Least", GOOD, ()),
                      ("cover", GOOD, ()), (GOOD, "least", ()), ("", GOOD, ()), (None, GOOD, ()), (True, GOOD, ()), (["least"], GOOD, ()),
                      (("least",), GOOD, ()), "least"]:
            self.refused("shape", -1, thing)
        for odd in [odd for odd in ODD if odd != ((), (), ())]:
            self.refused("shape", -1, ("least", odd, ()))
            self.refused("shape", -1, ("greatest", odd, None))

    def test_errors_of_stories(self):
        for word, at, story in [
                ("shape", -1, [GOOD]), ("many", -1, ()), ("parts", 5, (*GOOD[:5], (1,))), ("part", (0, 0), ((5,), *GOOD[1:])),
                ("rest", (5, 0), (*GOOD[:5], (2, 0))), ("lot", 1, ((2,), (1,), *GOOD[2:])),
                ("finding", 5, ((1,), (0,), (0,), (0,), (0,), (0, 0))), ("few", -1, (*GOOD[:4], (1,), (1, 0)))]:
            for name in ("least", "greatest"):
                # Ahead of those of the points, and of what it is worth.
                for points in [(), None, (None,), (("out", 5),)]:
                    self.refused(word, at, (name, story, points))
        book = (BOOK[0], (*BOOK[1], ("back", 5, "tank")))
        self.refused("same", (6, 0), ("least", (*GOOD, (0,)), ()), (book, *CASE[1:]), ())
        self.refused("guilty", 0, ("least", GOOD, (("out", 5),)), lots=("cedar",))
        self.refused("guilty", 0, ("greatest", GOOD, None), lots=())
        self.refused("guilty", 4, ("greatest", ((0,), (0,), (0,), (0,), (1,), (0, 1)), (("in", 0), ("in", 0))))

    def test_errors_of_points(self):
        for name in ("least", "greatest"):
            for odd in [odd for odd in ODD if not isinstance(odd, tuple)]:
                self.refused("points", -1, (name, GOOD, odd))
            for odd in NO_POINTS:
                self.refused("points", 0, (name, GOOD, (odd, odd)))
                self.refused("points", 1, (name, GOOD, (("in", 0), odd)))
            self.refused("points", 1, (name, GOOD, (("out", 5), ("out", 5))))
            self.refused("points", 1, (name, GOOD, (("out", 5), ("out", 4))))
        self.refused("sale", 5, ("greatest", GOOD, ()))
        self.refused("sale", 3, ("greatest", GOOD, ()), sales=(3, 5))
        self.refused("sale", 5, ("greatest", BAD, (("out", 3),)), sales=(3, 5))
        # A floor needs none of them.
        self.refused("worth", -1, ("least", GOOD, ()))

    def test_worth(self):
        self.refused("worth", -1, ("least", BAD, (("out", 5),)))
        self.refused("worth", -1, ("greatest", GOOD, WIDE))
        self.refused("worth", -1, ("greatest", BAD, (("out", 5),)))
        self.refused("worth", -1, ("least", BAD, WIDE))
        self.refused("worth", -1, ("greatest", GOOD, (("out", 5),)))
        # No cover that is worth more than the number, no floor that is worth less.
        self.refused("worth", -1, ("greatest", BAD, (("in", 5), ("out", 5))))

    def test_others(self):
        """Of other sales, of other lots, with the words exchanged, or with one thing changed: what is accepted is true."""
        refused = accepted = 0
        for seed in range(25):
            case = random_case(seed, 6, 2, findings=2)
            case = (*case[:2], tuple(LOTS), 2)
            sales = sales_by_model(case[0])
            stories = model_stories(case)
            for lots in lot_sets(case)[1:12:5]:
                by_lots = stories_by(case, stories, lots)
                if not by_lots:
                    continue
                papers = [number_paper(case, some, more, word) for some in (sales, sales[1:]) for more in (lots, ())
                          for word in ("least", "greatest") if story_by(case, more) is not None]
                others = [thing for paper in papers[:2] for thing in with_changes(paper)]
                swapped = [({"least": "greatest", "greatest": "least"}[word], story, points) for word, story, points in papers]
                numbers = [number_by_model(story, sales) for story in by_lots]
                for thing in [*papers, *swapped, *others]:
                    try:
                        word, number = lets_number(case, sales, lots, thing)
                    except LotError as error:
                        self.exactly(type(error), InvalidPaper)
                        refused += 1
                    else:
                        self.exactly(number, min(numbers) if word == "least" else max(numbers))
                        self.exactly(is_story(case, thing[1]), True)
                        accepted += 1
        self.assertGreater(refused, 1000)
        self.assertGreater(accepted, 50)

    def test_papers_of_the_case_with_sales_that_came_back(self):
        for lots in lot_sets(MANY):
            for sales in subsets((3, 5, 7)):
                self.confirmed(MANY, sales, lots)
