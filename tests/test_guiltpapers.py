"""[38], [39]: guilt papers."""
import itertools

from lotback.errors import InvalidPaper
from lotback.explaining import barrier_by, story_by
from lotback.guilt import least_guilty
from lotback.guiltchecker import lets_guilt
from lotback.guiltpapers import guilt_paper
from tests.common import BOOK, CASE, ODD, PURE, SIZES, Exact, with_changes
from tests.model import LOTS, guilty_by_model, lot_sets, model_stories, random_case

ASH = ((1,), (0,), (1,), (0,), (0,), (1, 0))
CEDAR = ((0,), (0,), (0,), (0,), (1,), (0, 1))
NONE = (("heap", "tank", 0), ("heap", "tank", 1), ("in", 0), ("in", 1), ("in", 2), ("in", 4), ("in", 5), ("out", 0), ("out", 1),
        ("out", 2), ("out", 4))
PAPER = (((("ash",), ASH), (("cedar",), CEDAR)), (((), NONE),))
BOTH = (BOOK, (("bad", 5),), ("ash", "birch", "cedar"), 2)


class Papers(Exact):
    def confirmed(self, case):
        """The paper is accepted with the least sets; its second tuple has just the greatest sets without a story."""
        paper = guilt_paper(case)
        self.told(least_guilty(case), lets_guilt, case, paper)
        self.told(least_guilty(case), lets_guilt, case=case, thing=paper)
        without = [lots for lots in lot_sets(case) if story_by(case, lots) is None]
        greatest = [lots for lots in without if not any(set(lots) < set(other) for other in without)]
        self.exactly(tuple(lots for lots, _ in paper[1]), tuple(sorted(greatest)))
        return paper

    def test_small_books(self):
        for seed in range(120):
            case = random_case(seed, 1 + seed % 8, 2)
            self.confirmed(case)
            guilty = {tuple(sorted(guilty_by_model(case[0], story))) for story in model_stories(case)}
            least = [some for some in guilty if not any(set(other) < set(some) for other in guilty)]
            self.exactly(lets_guilt(case, guilt_paper(case)), tuple(sorted(least)))

    def test_larger_books(self):
        several = 0
        for seed in range(60):
            case = random_case(seed + 11, 16, 20, findings=6)
            paper = self.confirmed((*case[:2], tuple(LOTS), 1 + seed % 3))
            several += len(paper[0]) > 1 and len(paper[1]) > 1
        self.assertGreater(several, 3)

    def test_special_cases(self):
        empty = (((("tank", "heap"),), ()), (), (), 0)
        for case in [CASE, PURE, BOTH, (*BOTH[:3], 3), (*BOTH[:3], 9), empty, (*empty[:2], ("ash", "elm"), 1)]:
            self.confirmed(case)
        # No suspects, or few 0: one set alone.
        for case in [(BOOK, (), (), 2), (BOOK, (), ("ash",), 0)]:
            self.exactly(self.confirmed(case), ((((), ((0,), (0,), (0,), (0,), (0,), (0, 0))),), ()))
        for case in [(BOOK, (("bad", 5),), (), 2), (BOOK, (("bad", 5),), ("ash",), 0)]:
            self.exactly(self.confirmed(case)[0], ())
            self.exactly([lots for lots, _ in self.confirmed(case)[1]], [()])
        # No story at all: the greatest sets.
        case = (BOOK, (("bad", 3), ("clean", 0), ("clean", 1)), ("ash", "birch", "elm"), 2)
        paper = self.confirmed(case)
        self.exactly((paper[0], [lots for lots, _ in paper[1]]), ((), [("ash", "birch"), ("ash", "elm"), ("birch", "elm")]))

    def test_least_sets_of_several_sizes(self):
        paper = self.confirmed(SIZES)
        self.exactly([lots for lots, _ in paper[0]], [("ash", "cedar"), ("birch",)])
        self.exactly([lots for lots, _ in paper[1]], [("ash",), ("cedar",)])

    def test_accepted(self):
        self.told((("ash",), ("cedar",)), lets_guilt, CASE, PAPER)
        # Other stories and barriers than the returned ones.
        other = (((("ash",), ((4,), (0,), (4,), (0,), (0,), (4, 0))), PAPER[0][1]), PAPER[1])
        self.told((("ash",), ("cedar",)), lets_guilt, CASE, other)


class Checker(Exact):
    def refused(self, word, at, thing, case=CASE):
        self.raising(InvalidPaper(word, at), lets_guilt, case, thing)
        self.raising(InvalidPaper(word, at), lets_guilt, case=case, thing=thing)

    def test_shape(self):
        told, barred = PAPER
        for thing in [*ODD, (told,), (told, barred, ()), [told, barred], (list(told), barred), (told, list(barred)), (told, None),
                      (None, barred), told, (told[0], barred), (told, barred[0])]:
            self.refused("shape", -1, thing)
        for odd in [*[odd for odd in ODD if odd != (("tank", "heap"), 3)], (), (("ash",),), (("ash",), ASH, ()), [("ash",), ASH], ("ash", ASH), (["ash"], ASH), (None, ASH)]:
            self.refused("shape", -1, ((odd,), barred))
            self.refused("shape", -1, ((*told, odd), barred))
            self.refused("shape", -1, (told, (*barred, odd)))
            # Ahead of a wrong set.
            self.refused("shape", -1, (((("elm",), None),), (odd,)))

    def test_set(self):
        told, barred = PAPER
        for lots in [("elm",), ("birch",), (None,), (True,), (("ash",),), ("ash", "cedar"), ("ash", "ash"), (1, 2, 3), (["ash"],)]:
            self.refused("set", (0, 0), (((lots, ASH), *told), barred))
            self.refused("set", (0, 1), ((told[0], (lots, None)), barred))
            self.refused("set", (1, 0), (told, ((lots, NONE), *barred)))
            self.refused("set", (1, 1), (told, (*barred, (lots, None))))
            # Ahead of what is wrong later: the story, the pairs behind, the other tuple.
            self.refused("set", (0, 0), (((lots, None), (lots, None)), ((lots, None),)))
            self.refused("set", (1, 0), ((), ((lots, None), (lots, None))))
        self.refused("set", (0, 1), (told[::-1], barred))
        self.refused("set", (0, 1), ((told[0], told[0]), barred))
        self.refused("set", (0, 2), ((*told, told[1]), barred))
        self.refused("set", (0, 1), ((told[1], ((), None)), barred))
        self.refused("set", (1, 1), (told, (*barred, *barred)))

    def test_story(self):
        told, barred = PAPER
        for story in [*ODD, None, CEDAR, (*ASH[:5], (2, 0)), list(ASH), ((0,), (0,), (0,), (0,), (0,), (0, 0)), (*ASH[:4], (1,), (1, 0)), NONE]:
            self.refused("story", (0, 0), (((("ash",), story), told[1]), barred))
            self.refused("story", (0, 1), ((*told[:1], (("cedar",), ASH)), barred))
            # Ahead of a wrong set behind it.
            self.refused("story", (0, 0), (((("ash",), story), (("elm",), None)), ((("elm",), None),)))
        self.refused("story", (0, 0), ((((), ASH), *told), barred))
        self.refused("story", (0, 2), ((*told, (("cedar", "dogwood"), ASH)), barred), (*CASE[:2], ("ash", "cedar", "dogwood"), 2))

    def test_barrier(self):
        told, barred = PAPER
        for points in [*ODD, None, (), NONE[1:], NONE[::-1], list(NONE), ASH, (*NONE, None), (*NONE, ("in", 9)), (*NONE, *NONE)]:
            self.refused("barrier", (1, 0), (told, (((), points),)))
            self.refused("barrier", (1, 0), (told, (((), points), (("elm",), None))))
        self.refused("barrier", (1, 0), (told, ((("ash",), NONE),)))
        # Behind all of the first tuple, ahead of what is within.
        self.refused("story", (0, 1), ((told[0], (("cedar",), ASH)), (((), None),)))
        self.refused("barrier", (1, 0), ((told[0], (("ash", "cedar"), ASH)), (((), None),)), (*CASE[:3], 2))

    def test_within(self):
        stories = {lots: (lots, story_by(BOTH, lots)) for lots in lot_sets(BOTH) if lots != ()}
        barred = (((), barrier_by(BOTH, ())),)
        one, two, three = stories[("ash",)], stories[("birch",)], stories[("cedar",)]
        self.exactly(lets_guilt(BOTH, ((one, two, three), barred)), (("ash",), ("birch",), ("cedar",)))
        self.refused("within", (0, 0), ((one, stories[("ash", "birch")], three), barred), BOTH)
        self.refused("within", (0, 1), ((one, two, stories[("birch", "cedar")]), barred), BOTH)
        self.refused("within", (0, 1), ((stories[("ash", "birch")], two, three), ()), BOTH)
        self.refused("within", (0, 2), ((stories[("ash", "birch")], stories[("ash", "cedar")], three), barred), BOTH)
        clean = (BOOK, (("clean", 2), ("bad", 5))[::-1], ("ash", "cedar", "elm"), 2)
        paper = guilt_paper(clean)
        self.exactly(tuple(lots for lots, _ in paper[1]), (("ash", "elm"),))
        more = [(lots, barrier_by(clean, lots)) for lots in [(), ("ash",), ("ash", "elm"), ("elm",)]]
        self.refused("within", (1, 0), (paper[0], tuple(more)), clean)
        self.refused("within", (1, 0), (paper[0], tuple(more[1:])), clean)
        self.refused("within", (1, 1), (paper[0], tuple(more[2:])), clean)
        self.refused("within", (1, 0), (paper[0], tuple(more[:1] + more[2:3])), clean)
        self.exactly(lets_guilt(clean, (paper[0], tuple(more[2:3]))), (("cedar",),))
        # Ahead of missing; and all of the first tuple ahead of the second one.
        self.refused("within", (1, 0), ((), tuple(more)), clean)
        both = (("ash", "cedar"), story_by(clean, ("ash", "cedar")))
        self.refused("within", (0, 1), ((both, *paper[0]), tuple(more)), clean)

    def test_missing(self):
        told, barred = PAPER
        self.refused("missing", (), (told, ()))
        self.refused("missing", ("ash",), (told[1:], barred))
        self.refused("missing", ("cedar",), (told[:1], barred))
        self.refused("missing", (), ((), ()))
        self.refused("missing", (), (told[1:], ()))
        # Sets that are no least ones leave others out.
        case = (*CASE[:3], 2)
        pair = (("ash", "cedar"), story_by(case, ("ash", "cedar")))
        self.refused("missing", ("ash",), ((pair,), barred), case)
        self.refused("missing", (), ((pair,), ()), case)
        # The sets are tried ascending, not by their sizes.
        clean = (BOOK, (("bad", 5), ("clean", 2)), ("ash", "birch", "cedar"), 2)
        paper = guilt_paper(clean)
        self.exactly([lots for lots, _ in paper[1]], [("ash", "birch")])
        smaller = tuple((lots, barrier_by(clean, lots)) for lots in [("ash",), ("birch",)])
        self.refused("missing", ("ash", "birch"), (paper[0], smaller), clean)
        self.refused("missing", ("birch",), (paper[0], smaller[:1]), (*clean[:3], 1))

    def test_one_thing_changed(self):
        """What is accepted is true: papers of others, and with one thing changed at any depth."""
        accepted = refused = 0
        for seed in range(30):
            case = random_case(seed, 5, 2, findings=4)
            case = (*case[:2], tuple(LOTS), 1 + seed % 2)
            fewer = (*case[:2], tuple(LOTS), 1)
            for thing in itertools.chain([guilt_paper(fewer), guilt_paper(case)], itertools.islice(with_changes(guilt_paper(case)), 0, None, 7)):
                try:
                    self.exactly(lets_guilt(case, thing), least_guilty(case))
                    accepted += 1
                except InvalidPaper:
                    refused += 1
        self.assertGreater(accepted, 30)
        self.assertGreater(refused, 300)

    def test_nothing_is_changed(self):
        self.told((("ash",), ("cedar",)), lets_guilt, CASE, PAPER)
        for case in (CASE, PURE, BOTH):
            self.told(guilt_paper(case), guilt_paper, case)
            self.told(guilt_paper(case), guilt_paper, case=case)
