"""[46], [50] to [53], [57], [8] (B6): the fewest looks, look plans, limit trees, looks papers."""
import random

from lotback.cases import with_finding
from lotback.errors import NoStory, NotUsable
from lotback.explaining import is_explained
from lotback.lookchecker import lets_limit, lets_look_plan, lets_looks
from lotback.looks import fewest_looks, look_plan, looks_paper, settled_as
from lotback.numbers import numbers_of
from lotback.shieldchecker import lets_base, lets_shield
from lotback.stories import is_story
from tests.common import BARRED, BOOK, CASE, PURE, Exact
from tests.model import (LOTS, bad_in, fewest_by_model, free_rows, model_stories, random_case, sales_by_model, settled_by_model,
                         subsets)


def some_parcels(case, seed, most=4):
    """Some lists of parcels, at most so many each."""
    dice = random.Random(seed)
    free = free_rows(case)
    lists = [tuple(sorted(dice.sample(free, dice.randint(0, min(most, len(free)))))) for _ in range(4)]
    sales = tuple(t for t in sales_by_model(case[0]) if t in free)[:most]
    return sorted({(), sales, *lists})


def found(case, word, t):
    return with_finding(case, (word, t))


class Looks(Exact):
    def confirmed(self, case, sales, parcels, fewest):
        self.told(fewest, fewest_looks, case, sales, parcels)
        plan = look_plan(case, sales, parcels)
        self.told(plan, look_plan, case, sales, parcels)
        paper = looks_paper(case, sales, parcels)
        self.told(paper, looks_paper, case, sales, parcels)
        self.told(fewest, lets_looks, case, sales, parcels, paper)
        self.exactly(plan is None, fewest is None)
        self.exactly(paper[0] is None, fewest is None)
        if plan is not None:
            self.told(fewest, lets_look_plan, case, sales, parcels, plan)
            self.exactly(self.looks_of(case, sales, parcels, plan), fewest)
        self.told(fewest, lets_limit, case, sales, parcels, paper[1])
        self.exactly(self.worth_of(case, sales, parcels, paper[1]), fewest)

    def looks_of(self, case, sales, parcels, plan):
        """The looks of a plan, each end of which is what the document says."""
        if plan[0] == "look":
            _, t, one, other = plan
            self.assertIn(t, parcels)
            left = tuple(parcel for parcel in parcels if parcel != t)
            looks = [self.looks_of(found(case, word, t), sales, left, branch) for word, branch in (("bad", one), ("clean", other))]
            return 1 + max(looks)
        word, pairs = plan
        call, number = {"clean": (lets_shield, 0), "bad": (lets_base, 1)}[word]
        call(case, sales, number, pairs)
        return 0

    def worth_of(self, case, sales, parcels, tree):
        """The worth of a limit tree, each story of which is what the document says."""
        if tree == ():
            return 0
        one, other, branches = tree
        self.exactly((is_story(case, one), bad_in(one, sales), is_story(case, other), bad_in(other, sales)), (True, False, True, True))
        if not parcels:
            self.exactly(branches, ())
            return None
        if branches == ():
            return 1
        self.exactly([t for t, _, _ in branches], list(parcels))
        worths = [self.worth_of(found(case, word, t), sales, tuple(parcel for parcel in parcels if parcel != t), branch)
                  for t, word, branch in branches]
        return min((worth + 1 for worth in worths if worth is not None), default=None)

    def test_all_stories(self):
        told = set()
        for seed in range(90):
            case = random_case(seed, 3 + seed % 6, 2, findings=2)
            case = (*case[:2], case[2], max(1, case[3]))
            stories = model_stories(case)
            outside = sales_by_model(case[0])
            for sales in {(), outside, outside[:1], outside[1:]}:
                if not stories:
                    self.raising(NoStory(case[2]), settled_as, case, sales)
                    for call in (fewest_looks, look_plan, looks_paper):
                        self.raising(NoStory(case[2]), call, case, sales, ())
                    continue
                self.told(settled_by_model(stories, sales), settled_as, case, sales)
                for parcels in some_parcels(case, seed):
                    fewest = fewest_by_model(stories, sales, parcels)
                    self.confirmed(case, sales, parcels, fewest)
                    told.add(fewest)
        self.assertLessEqual({None, 0, 1, 2, 3}, told)

    def test_all_lists_of_parcels(self):
        """There is no plan exactly if no looks settle it."""
        told = set()
        for seed in range(14):
            case = random_case(seed + 300, 6, 2, findings=1)
            case = (*case[:2], tuple(LOTS), 2)
            stories = model_stories(case)
            sales = sales_by_model(case[0])
            if stories and sales:
                for parcels in subsets(free_rows(case)):
                    if len(parcels) <= 4:
                        fewest = fewest_by_model(stories, sales, parcels)
                        self.confirmed(case, sales, parcels, fewest)
                        told.add(fewest)
        self.assertLessEqual({None, 0, 1, 2}, told)

    def test_larger_books(self):
        for seed in range(12):
            case = random_case(seed + 140, 16, 20, findings=6)
            case = (*case[:2], tuple(LOTS), 3)
            sales = sales_by_model(case[0])[:6]
            if is_explained(case):
                numbers = numbers_of(case, sales)
                self.told("clean" if numbers == (0,) else "bad" if numbers[0] else None, settled_as, case, sales)
                for parcels in some_parcels(case, seed):
                    self.confirmed(case, sales, parcels, fewest_looks(case, sales, parcels))

    def test_beyond_the_limits(self):
        big = 10 ** 59
        rows = [("come", "tank", "ash", big), *[("sell", "tank", big // 10 + k) for k in range(6)]]
        case = (((("tank", "heap"),), tuple(rows)), (), ("ash", "birch"), 1)
        self.confirmed(case, (1, 3, 4, 5, 6), (1, 2, 3, 4, 5, 6), 5)
        self.confirmed(case, (1, 2, 3, 4, 5, 6), (2, 3, 4, 5, 6), None)
        self.told(None, settled_as, case, (2,))

    def test_the_example(self):
        self.told(None, settled_as, CASE, (3,))
        self.exactly((settled_as(case=CASE, sales=(5,)), settled_as(CASE, (3, 5)), settled_as(CASE, ())), ("bad", "bad", "clean"))
        self.exactly(settled_as((BOOK, (), (), 0), (3, 5)), "clean")
        for parcels, fewest in [((2,), None), ((2, 3), 1), ((3,), 1), ((), None), ((0, 1, 2, 4), None), ((0, 1, 2, 3), 1)]:
            self.confirmed(CASE, (3,), parcels, fewest)
            for call in (fewest_looks, look_plan, looks_paper):
                self.exactly(call(case=CASE, sales=(3,), parcels=parcels), call(CASE, (3,), parcels))
        for sales in ((5,), (), (3, 5)):
            self.confirmed(CASE, sales, (), 0)
            self.confirmed(CASE, sales, (0, 1, 2, 3), 0)

    def test_a_book_without_rows(self):
        case = (((("tank", "heap"),), ()), (), ("ash", "elm"), 1)
        self.told("clean", settled_as, case, ())
        self.confirmed(case, (), (), 0)

    def test_looks_that_are_needed_together(self):
        """All of three sales, one after the other; or one look ahead of them that settles more."""
        rows = (("come", "tank", "ash", 9), *[("sell", "tank", 3)] * 3)
        case = (((("tank", "heap"),), rows), (), ("ash",), 1)
        for parcels, fewest in [((1, 2, 3), 3), ((0, 1, 2, 3), 1), ((1, 2), None), ((0,), 1), ((0, 1), 1)]:
            self.confirmed(case, (1, 2, 3), parcels, fewest)
        # The sales have all units: a look at what came is enough. With some kept it is not.
        kept = (((("tank", "heap"),), (("come", "tank", "ash", 10), *rows[1:])), (), ("ash",), 1)
        for parcels, fewest in [((1, 2, 3), 3), ((0, 1, 2, 3), 3), ((0,), None), ((0, 1, 2), None)]:
            self.confirmed(kept, (1, 2, 3), parcels, fewest)

    def test_the_first_look_settles_which_is_next(self):
        """A look whose answer tells at which other parcel to look: two looks out of three."""
        rows = (("come", "keg", "ash", 1), ("come", "tank", "birch", 1), ("come", "vat", "cedar", 2), ("move", "keg", "vat", 1),
                ("sell", "vat", 1), ("move", "tank", "vat", 1), ("sell", "vat", 1))
        places = (("keg", "heap"), ("tank", "heap"), ("vat", "heap"))
        case = ((places, rows), (), ("ash", "birch", "cedar"), 1)
        stories = model_stories(case)
        for sales in ((4,), (6,), (4, 6)):
            for parcels in subsets(range(7)):
                if len(parcels) <= 3:
                    self.confirmed(case, sales, parcels, fewest_by_model(stories, sales, parcels))

    def test_more_parcels(self):
        """[57]: with all sales among the parcels there is a plan; with more parcels no more looks are needed."""
        for seed in range(20):
            case = random_case(seed, 12, 6, findings=3)
            case = (*case[:2], tuple(LOTS), 2)
            if is_explained(case):
                free = free_rows(case)
                sales = tuple(t for t in sales_by_model(case[0]))[:3]
                parcels = tuple(t for t in sales if t in free)
                fewest = fewest_looks(case, sales, parcels)
                self.assertIsNotNone(fewest)
                self.assertLessEqual(fewest, len(parcels))
                for t in free:
                    if t not in parcels:
                        self.assertLessEqual(fewest_looks(case, sales, tuple(sorted((*parcels, t)))), fewest)

    def test_no_story(self):
        case = (*PURE[:2], ("ash", "elm"), 1)
        self.raising(NoStory(("ash", "elm")), settled_as, case, (3,))
        for call in (fewest_looks, look_plan, looks_paper):
            self.raising(NoStory(("ash", "elm")), call, case, (3,), (3,))
            self.raising(NoStory(("ash", "elm")), call, case=case, sales=(), parcels=())
            self.raising(NoStory(()), call, BARRED, (3,), (0, 1))
        # Wrong sales and wrong parcels ahead of NoStory: there is a finding about this one.
        self.raising(NotUsable("sales", 0), settled_as, case, (2,))
        for call in (fewest_looks, look_plan, looks_paper):
            self.raising(NotUsable("parcels", 0), call, case, (3,), (2,))
            self.raising(NotUsable("sales", 0), call, case, (2,), (2,))

    def test_wrong_parameters(self):
        self.wrong_sales(settled_as)
        for call in (fewest_looks, look_plan, looks_paper):
            self.wrong_sales(call, ())
            self.wrong_sales(call, None)
            self.wrong_parcels(call)
        for call in (lets_look_plan, lets_limit, lets_looks):
            self.wrong_sales(call, None, None)
            self.wrong_parcels(call, ())
