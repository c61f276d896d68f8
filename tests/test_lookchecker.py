"""[50] to [53]: the checkers of look plans, limit trees and looks papers."""
import itertools

from lotback.errors import InvalidPaper
from lotback.lookchecker import lets_limit, lets_look_plan, lets_looks
from lotback.looks import fewest_looks, look_plan, looks_paper
from lotback.shields import base_of, shield_of
from tests.common import BOOK, CASE, ODD, PURE, Exact, with_changes
from tests.model import LOTS, fewest_by_model, free_rows, model_stories, random_case, sales_by_model
from tests.test_looks import found

ONE, TWO = ((1,), (0,), (1,), (0,), (0,), (1, 0)), ((4,), (0,), (2,), (2,), (0,), (2, 0))
ENDLESS = (ONE, TWO, ((2, "bad", (ONE, TWO, ())),))
# Ahead of any look both answers are possible about each of parcels 1 to 3, the sales.
THIRDS = (((("tank", "heap"),), (("come", "tank", "ash", 10), *[("sell", "tank", 3)] * 3)), (), ("ash",), 1)
NONE = ((0,),) * 4


def bad_one(t):
    """A story of THIRDS with a bad unit in one sale alone."""
    return ((1,), *[(int(k == t),) for k in (1, 2, 3)])


def third_case(*told):
    case = THIRDS
    for word, t in told:
        case = found(case, word, t)
    return case


def end(case, sales=(1, 2, 3)):
    """An end of a plan: as bad if there is a finding of a bad unit."""
    if any(word == "bad" for word, _ in case[1]):
        return ("bad", base_of(case, sales, 1))
    return ("clean", shield_of(case, sales, 0))


def thirds_plan(first=1, second=2, third=3):
    """Look at all three, one after the other, until one is bad."""
    clean, both = third_case(("clean", first)), third_case(("clean", first), ("clean", second))
    last = ("look", third, end(found(both, "bad", third)), end(found(both, "clean", third)))
    return ("look", first, end(third_case(("bad", first))), ("look", second, end(found(clean, "bad", second)), last))


class Plans(Exact):
    def refused(self, word, at, thing, case=CASE, sales=(3,), parcels=(2, 3)):
        self.raising(InvalidPaper(word, at), lets_look_plan, case, sales, parcels, thing)
        self.raising(InvalidPaper(word, at), lets_look_plan, case=case, sales=sales, parcels=parcels, thing=thing)
        # None stands for no plan there.
        if thing is not None:
            self.raising(InvalidPaper("plan", -1), lets_looks, case, sales, parcels, (thing, None))

    def thirds(self, word, at, thing, parcels=(1, 2, 3)):
        self.refused(word, at, thing, THIRDS, (1, 2, 3), parcels)

    def test_accepted(self):
        plan = thirds_plan()
        self.told(3, lets_look_plan, THIRDS, (1, 2, 3), (1, 2, 3), plan)
        self.exactly(lets_look_plan(case=THIRDS, sales=(1, 2, 3), parcels=(1, 2, 3), thing=plan), 3)
        self.told(3, lets_look_plan, THIRDS, (1, 2, 3), (1, 2, 3), thirds_plan(3, 1, 2))
        self.told(3, lets_look_plan, THIRDS, (1, 2, 3), (0, 1, 2, 3), plan)
        # More looks than are needed, and ends that are not needed.
        self.told(0, lets_look_plan, CASE, (5,), (), ("bad", base_of(CASE, (5,), 1)))
        more = ("look", 2, ("bad", base_of(found(CASE, "bad", 2), (5,), 1)), ("bad", base_of(found(CASE, "clean", 2), (5,), 1)))
        self.told(1, lets_look_plan, CASE, (5,), (2, 3), more)
        self.told(0, lets_look_plan, CASE, (), (), ("clean", shield_of(CASE, (), 0)))

    def test_ends_behind_an_answer_that_no_story_has(self):
        """Barriers alone: as clean, or as bad."""
        # By ash and cedar a clean sale 5 is not possible.
        case = (BOOK, (("bad", 2),), ("ash",), 1)
        gone = found(case, "clean", 0)
        for sales in [(3,), (3, 5), ()]:
            self.exactly((shield_of(gone, sales, 0)[0][0], base_of(gone, sales, 1)[0][0]), ("barrier", "barrier"))
        later = found(case, "bad", 0)
        behind = ("look", 3, ("bad", base_of(found(later, "bad", 3), (3,), 1)), ("clean", shield_of(found(later, "clean", 3), (3,), 0)))
        for ending in [("clean", shield_of(gone, (3,), 0)), ("bad", base_of(gone, (3,), 1))]:
            self.told(2, lets_look_plan, case, (3,), (0, 3), ("look", 0, behind, ending))
        self.told(0, lets_look_plan, gone, (3,), (), ("bad", base_of(gone, (3,), 1)))
        self.told(0, lets_look_plan, gone, (3,), (), ("clean", shield_of(gone, (3,), 0)))

    def test_shape(self):
        plan = thirds_plan()
        things = [*[odd for odd in ODD if odd not in (("ash", True), ("in", True), ("bad", -1), ("bad", True), ("clean", "1"), ("worse", 1))],
                  (), ("look", 1, plan), ("look", 1, plan, plan, plan), list(plan), ("Look", *plan[1:]), (None, *plan[1:]), ("bad", *plan[1:]),
                  (["look"], *plan[1:]), ("bad",), (1, ()), (None, None), ("ab"), "look"]
        for thing in things:
            self.thirds("shape", 0, thing)
            self.thirds("shape", 1, ("look", 1, thing, plan[3]))
            self.thirds("shape", 2, ("look", 1, plan[2], thing))
            self.thirds("shape", 3, ("look", 1, plan[2], ("look", 2, thing, None)))
            self.thirds("shape", 4, ("look", 1, plan[2], ("look", 2, plan[3][2], thing)))

    def test_word(self):
        plan = thirds_plan()
        for word in ["", "Bad", "look", "story", "bad ", "cover"]:
            self.thirds("word", 0, (word, None))
            self.thirds("word", 1, ("look", 1, (word, plan[2][1]), (word, None)))
            self.thirds("word", 2, ("look", 1, plan[2], (word, None)))
            self.thirds("word", 6, ("look", 1, plan[2], ("look", 2, plan[3][2], ("look", 3, plan[3][3][2], (word, ())))))

    def test_end(self):
        plan = thirds_plan()
        for word in ("bad", "clean"):
            for pairs in [*ODD, None, (), plan[2][1], plan[3][3][3][1], (("barrier", ()),), (("floor", ()),)]:
                self.thirds("end", 0, (word, pairs))
                self.thirds("end", 2, ("look", 1, plan[2], (word, pairs)))
            self.refused("end", 0, (word, shield_of(CASE, (3,), 2)))
            self.refused("end", 0, (word, base_of(CASE, (3,), 0)))
        # A shield for 1, and none for 0: one unit that can be bad.
        unit = (((("tank", "heap"),), (("come", "tank", "ash", 2), ("sell", "tank", 1))), (), ("ash",), 1)
        self.refused("end", 0, ("clean", shield_of(unit, (1,), 1)), unit, (1,), (0,))
        self.refused("end", 0, ("bad", base_of(unit, (1,), 0)), unit, (1,), (0,))
        # Those of the other word; those of another number; those of other findings on the way.
        bad, clean = plan[2], plan[3][3][3]
        self.thirds("end", 1, ("look", 1, ("clean", bad[1]), plan[3]))
        self.thirds("end", 6, ("look", 1, bad, ("look", 2, plan[3][2], ("look", 3, plan[3][3][2], ("bad", clean[1])))))
        self.thirds("end", 1, ("look", 1, plan[3][2], plan[3]))
        self.thirds("end", 1, ("look", 1, clean, None))

    def test_parcel(self):
        plan = thirds_plan()
        for t in [*ODD, 0, 4, "1", (1,), [1]]:
            self.thirds("parcel", 0, ("look", t, *plan[2:]))
            self.thirds("parcel", 0, ("look", t, None, None))
            self.thirds("parcel", 2, ("look", 1, plan[2], ("look", t, None, None)))
        # Not twice on the way; but again on another one.
        self.thirds("parcel", 2, ("look", 1, plan[2], ("look", 1, *plan[3][2:])))
        self.thirds("parcel", 4, ("look", 1, plan[2], ("look", 2, plan[3][2], ("look", 1, None, None))))
        self.thirds("parcel", 0, plan, ())
        self.thirds("parcel", 4, plan, (1, 2))
        self.thirds("parcel", 0, ("look", True, *plan[2:]))
        bad = third_case(("bad", 1))
        again = ("look", 2, end(found(bad, "bad", 2)), end(found(bad, "clean", 2)))
        self.told(3, lets_look_plan, THIRDS, (1, 2, 3), (1, 2, 3), ("look", 1, again, plan[3]))

    def test_numbering(self):
        """A node ahead of its branches, all of the first one ahead of the second one."""
        plan = thirds_plan()
        bad = third_case(("bad", 1))
        again = ("look", 2, end(found(bad, "bad", 2)), end(found(bad, "clean", 2)))
        self.thirds("shape", 3, ("look", 1, ("look", 2, again[2], None), None))
        self.thirds("shape", 2, ("look", 1, ("look", 2, None, None), None))
        self.thirds("shape", 4, ("look", 1, again, None))
        self.thirds("word", 4, ("look", 1, again, ("", None)))
        self.thirds("parcel", 4, ("look", 1, again, ("look", 0, None, None)))
        self.thirds("end", 5, ("look", 1, again, ("look", 2, ("clean", plan[2][1]), None)))
        self.thirds("shape", 6, ("look", 1, again, ("look", 2, plan[3][2], None)))

    def test_one_thing_changed(self):
        """Accepted plans settle it: never with fewer looks than are needed, none if none are enough."""
        accepted = refused = 0
        for seed in range(40):
            case = random_case(seed, 6, 2, findings=1)
            case = (*case[:2], tuple(LOTS[:3]), 1)
            sales = sales_by_model(case[0])[:2]
            parcels = tuple(free_rows(case)[-3:])
            stories = model_stories(case)
            if stories and sales:
                plans = [look_plan(case, sales, parcels), look_plan((*case[:3], 2), sales, parcels)]
                changed = itertools.islice(with_changes(plans[0]), 0, None, 11) if plans[0] else []
                for thing in itertools.chain(plans, changed):
                    for some in (parcels, parcels[1:]):
                        fewest = fewest_by_model(stories, sales, some)
                        try:
                            looks = lets_look_plan(case, sales, some, thing)
                        except InvalidPaper:
                            refused += 1
                        else:
                            self.assertIsNotNone(fewest)
                            self.assertGreaterEqual(looks, fewest)
                            accepted += 1
        self.assertGreater(accepted, 30)
        self.assertGreater(refused, 150)


class Limits(Exact):
    def refused(self, word, at, thing, case=CASE, sales=(3,), parcels=(2,)):
        self.raising(InvalidPaper(word, at), lets_limit, case, sales, parcels, thing)
        self.raising(InvalidPaper(word, at), lets_limit, case=case, sales=sales, parcels=parcels, thing=thing)
        self.raising(InvalidPaper("limit", -1), lets_looks, case, sales, parcels, (None, thing))

    def test_worths(self):
        for parcels, tree, worth in [((2,), ENDLESS, None), ((2,), (), 0), ((), (), 0), ((2, 3), (), 0), ((2,), (ONE, TWO, ()), 1), ((), (ONE, TWO, ()), None),
                                     ((2, 3), (ONE, TWO, ()), 1), ((2,), (ONE, TWO, ((2, "bad", ()),)), 1)]:
            self.told(worth, lets_limit, CASE, (3,), parcels, tree)
            self.exactly(lets_limit(case=CASE, sales=(3,), parcels=parcels, thing=tree), worth)
        # One more than the least worth of the branches.
        least = NONE, bad_one(1), ((1, "clean", ()), (2, "clean", (NONE, bad_one(1), ())), (3, "bad", ()))
        self.told(1, lets_limit, THIRDS, (1, 2, 3), (1, 2, 3), least)
        self.told(2, lets_limit, THIRDS, (1, 2, 3), (1, 2, 3), self.deep(1))
        self.told(3, lets_limit, THIRDS, (1, 2, 3), (1, 2, 3), self.deep(2))
        self.told(None, lets_limit, THIRDS, (1, 2, 3), (1, 2), self.deep(2, (1, 2), 3))
        self.told(2, lets_limit, THIRDS, (1, 2, 3), (1, 2), self.deep(1, (1, 2), 3))
        # Some branches endless, others not: as the least.
        mixed = (NONE, bad_one(3), ((1, "clean", (NONE, bad_one(3), ((2, "clean", (NONE, bad_one(3), ())),))), (2, "clean", (NONE, bad_one(3), ()))))
        self.told(2, lets_limit, THIRDS, (1, 2, 3), (1, 2), mixed)

    def deep(self, depth, left=(1, 2, 3), hidden=None):
        """A limit tree with branches down to this depth, all clean; hidden is a sale that is none of the parcels."""
        other = bad_one(left[0] if hidden is None else hidden)
        branches = []
        for t in left if depth else ():
            branches.append((t, "clean", self.deep(depth - 1, tuple(parcel for parcel in left if parcel != t), hidden)))
        return (NONE, other, tuple(branches))

    def test_shape(self):
        for tree in [*[odd for odd in ODD if odd not in ((), ((), (), ()))], [], list(ENDLESS), (ONE, TWO), (ONE, TWO, (), ()), (ONE, TWO, None), (ONE, TWO, []),
                     (ONE, TWO, (None,)), (ONE, TWO, ((2, "bad"),)), (ONE, TWO, ((2, "bad", (), ()),)), (ONE, TWO, ([2, "bad", ()],)), (ONE, TWO, "a"),
                     (None, None, None), (ONE, TWO, (ENDLESS[2][0], ())), 0, False, "abc"]:
            self.refused("shape", 0, tree)
            self.refused("shape", 1, (ONE, TWO, ((2, "bad", tree),)))

    def test_story(self):
        for story in [*ODD, None, (), ONE[:5], list(ONE), ((0,),) * 6, NONE]:
            self.refused("story", (0, 0), (story, TWO, ()))
            self.refused("story", (0, 0), (story, None, ((None, None, None),)))
            self.refused("story", (0, 1), (ONE, story, ()))
            self.refused("story", (0, 1), (ONE, story, ((None, None, None),)))
            self.refused("story", (1, 0), (ONE, TWO, ((2, "bad", (story, TWO, ())),)))
            self.refused("story", (1, 1), (ONE, TWO, ((2, "bad", (ONE, story, ())),)))
        # One has no bad unit in the sales, other has one.
        self.refused("story", (0, 0), (TWO, ONE, ()))
        self.refused("story", (0, 1), (ONE, ONE, ()))
        self.refused("story", (0, 0), (TWO, TWO, ()))
        self.refused("story", (0, 0), ENDLESS, sales=(5,))
        self.refused("story", (0, 1), ENDLESS, sales=())
        # They are stories with the findings on the way.
        self.refused("story", (1, 0), (ONE, TWO, ((2, "clean", (ONE, TWO, ())),)))
        cedar = ((0,), (0,), (0,), (0,), (3,), (0, 1))
        self.refused("story", (1, 0), (cedar, TWO, ((2, "bad", (cedar, TWO, ())),)))
        self.refused("story", (1, 0), (ONE, TWO, ((2, "clean", (ONE, TWO, ())),)))
        self.refused("story", (1, 1), (ONE, TWO, ((2, "clean", (cedar, TWO, ())),)))
        self.told(None, lets_limit, CASE, (3,), (2,), (cedar, TWO, ENDLESS[2]))

    def test_branches(self):
        for t in [*ODD, 3, "2", (2,), [2]]:
            self.refused("branches", 0, (ONE, TWO, ((t, "bad", ()),)))
            self.refused("branches", 0, (ONE, TWO, ((t, "bad", None), (t, None, None))))
        for word in [*ODD, "Bad", "look", ("bad",), 1]:
            self.refused("branches", 0, (ONE, TWO, ((2, word, ()),)))
            self.refused("branches", 0, (ONE, TWO, ((2, word, None),)))
        leaf = (ONE, TWO, ())
        for branches in [((2, "bad", leaf),), ((3, "clean", leaf),), ((3, "bad", ()), (2, "bad", ())), ((2, "bad", ()), (2, "bad", ())),
                         ((2, "bad", ()), (3, "bad", ()), (4, "bad", ())), ((2, "bad", None), (3, None, None))]:
            self.refused("branches", 0, (ONE, TWO, branches), parcels=(2, 3))
        # None left: no branches.
        self.refused("branches", 0, ENDLESS, parcels=())
        self.refused("branches", 1, (ONE, TWO, ((2, "bad", ENDLESS),)))
        found_bad = (((("tank", "heap"),), (("come", "tank", "ash", 2), ("sell", "tank", 1))), (), ("ash",), 1)
        none, bad = ((0,), (0,)), ((1,), (1,))
        self.refused("branches", 0, (none, bad, ((True, "bad", ()),)), found_bad, (1,), (1,))
        self.told(1, lets_limit, found_bad, (1,), (1,), (none, bad, ((1, "bad", ()),)))

    def test_numbering(self):
        leaf = (NONE, bad_one(3), ())
        tree = (NONE, bad_one(3), ((1, "clean", (NONE, bad_one(3), ((2, "clean", leaf),))), (2, "clean", (NONE, bad_one(3), ((1, "clean", leaf),)))))
        self.told(None, lets_limit, THIRDS, (1, 2, 3), (1, 2), tree)

        def with_leaves(one, other):
            return (NONE, bad_one(3), ((1, "clean", (NONE, bad_one(3), ((2, "clean", one),))), (2, "clean", (NONE, bad_one(3), ((1, "clean", other),)))))
        for one, other, word, at in [(None, None, "shape", 2), (leaf, None, "shape", 4), (leaf, (NONE, NONE, ()), "story", (4, 1)),
                                     ((bad_one(3), None, ()), None, "story", (2, 0)), (leaf, tree, "branches", 4), ((), None, "shape", 4)]:
            self.refused(word, at, with_leaves(one, other), THIRDS, (1, 2, 3), (1, 2))
        self.refused("branches", 3, (*tree[:2], (tree[2][0], (2, "clean", (NONE, bad_one(3), ((2, "clean", None),))))), THIRDS, (1, 2, 3), (1, 2))

    def test_one_thing_changed(self):
        """An accepted tree is never worth more than the looks that are needed."""
        accepted = refused = 0
        for seed in range(40):
            case = random_case(seed, 6, 2, findings=1)
            case = (*case[:2], tuple(LOTS[:3]), 1)
            sales = sales_by_model(case[0])[:2]
            parcels = tuple(free_rows(case)[-3:])
            stories = model_stories(case)
            if stories and sales:
                trees = [looks_paper(case, sales, parcels)[1], looks_paper((*case[:3], 2), sales, parcels)[1]]
                for thing in itertools.chain(trees, itertools.islice(with_changes(trees[0]), 0, None, 7)):
                    for some in (parcels, parcels[1:]):
                        fewest = fewest_by_model(stories, sales, some)
                        try:
                            worth = lets_limit(case, sales, some, thing)
                        except InvalidPaper:
                            refused += 1
                        else:
                            if fewest is not None:
                                self.assertLessEqual(worth, fewest)
                            accepted += 1
        self.assertGreater(accepted, 60)
        self.assertGreater(refused, 150)


class Papers(Exact):
    def refused(self, word, at, thing, case=CASE, sales=(3,), parcels=(2, 3)):
        self.raising(InvalidPaper(word, at), lets_looks, case, sales, parcels, thing)
        self.raising(InvalidPaper(word, at), lets_looks, case=case, sales=sales, parcels=parcels, thing=thing)

    def setUp(self):
        self.plan, self.tree = looks_paper(CASE, (3,), (2, 3))

    def test_accepted(self):
        self.told(1, lets_looks, CASE, (3,), (2, 3), (self.plan, self.tree))
        self.told(None, lets_looks, CASE, (3,), (2,), (None, ENDLESS))
        self.exactly(lets_looks(case=CASE, sales=(3,), parcels=(2,), thing=(None, ENDLESS)), None)
        self.told(0, lets_looks, CASE, (5,), (2,), (("bad", base_of(CASE, (5,), 1)), ()))
        self.told(3, lets_looks, THIRDS, (1, 2, 3), (1, 2, 3), (thirds_plan(), looks_paper(THIRDS, (1, 2, 3), (1, 2, 3))[1]))
        # Without a story nothing has to be looked at.
        case = (*PURE[:2], ("ash", "elm"), 1)
        self.told(0, lets_looks, case, (3,), (3,), (("clean", shield_of(case, (3,), 0)), ()))

    def test_shape(self):
        for thing in [None, (), [], 0, "ab", (self.plan,), (self.plan, self.tree, ()), [self.plan, self.tree], [None, ENDLESS]]:
            self.refused("shape", -1, thing)
        for odd in ODD:
            if not (isinstance(odd, tuple) and len(odd) == 2):
                self.refused("shape", -1, odd)

    def test_plan(self):
        for plan in [*[odd for odd in ODD if odd is not None], (), self.tree, list(self.plan), ("look", 4, None, None), ("clean", ()), self.plan[:3]]:
            self.refused("plan", -1, (plan, self.tree))
            self.refused("plan", -1, (plan, None))
        self.refused("plan", -1, (self.plan, self.tree), parcels=(2,))

    def test_limit(self):
        for tree in [*[odd for odd in ODD if odd != ()], [], None, self.plan, (TWO, ONE, ()), (ONE, TWO, ((2, "bad", ()),))]:
            self.refused("limit", -1, (self.plan, tree))
            self.refused("limit", -1, (None, tree))

    def test_few(self):
        self.refused("few", -1, (self.plan, ()))
        self.refused("few", -1, (None, ()))
        self.refused("few", -1, (None, self.tree))
        self.refused("few", -1, (None, ()), sales=(5,))
        self.refused("few", -1, (None, (ONE, TWO, ((2, "bad", ()),))), parcels=(2,))
        # A plan with more looks than the tree is worth.
        tree = looks_paper(THIRDS, (1, 2, 3), (1, 2, 3))[1]
        self.exactly(lets_limit(THIRDS, (1, 2, 3), (1, 2, 3), tree), 3)
        bad = third_case(("bad", 1))
        again = ("look", 2, end(found(bad, "bad", 2)), end(found(bad, "clean", 2)))
        self.told(3, lets_looks, THIRDS, (1, 2, 3), (1, 2, 3), (("look", 1, again, thirds_plan()[3]), tree))
        self.refused("few", -1, (thirds_plan(), (NONE, bad_one(1), ())), THIRDS, (1, 2, 3), (1, 2, 3))
        self.refused("few", -1, (("look", 0, end_of_sale("bad", 0), end_of_sale("clean", 0)), ()), *SOLD)
        self.told(1, lets_looks, *SOLD, (("look", 0, end_of_sale("bad", 0), end_of_sale("clean", 0)), (((0,), (0,)), ((1,), (1,)), ())))

    def test_fewest(self):
        """What is accepted tells the fewest looks: with one thing changed, also of other cases."""
        accepted = refused = 0
        for seed in range(40):
            case = random_case(seed, 6, 2, findings=1)
            case = (*case[:2], tuple(LOTS[:3]), 1)
            sales = sales_by_model(case[0])[:2]
            parcels = tuple(free_rows(case)[-3:])
            if model_stories(case) and sales:
                papers = [looks_paper(case, sales, parcels), looks_paper((*case[:3], 2), sales, parcels)]
                for thing in itertools.chain(papers, itertools.islice(with_changes(papers[0]), 0, None, 13)):
                    try:
                        self.exactly(lets_looks(case, sales, parcels, thing), fewest_looks(case, sales, parcels))
                        accepted += 1
                    except InvalidPaper:
                        refused += 1
        self.assertGreater(accepted, 30)
        self.assertGreater(refused, 150)


# All that came is sold.
SOLD = ((((("tank", "heap"),), (("come", "tank", "ash", 2), ("sell", "tank", 2))), (), ("ash",), 1), (1,), (0,))


def end_of_sale(word, t):
    return end(found(SOLD[0], word, t), (1,))
