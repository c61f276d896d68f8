"""[40] to [42], [44], [8] (B4): clashes, drops and dispute papers."""
import itertools

from lotback.disputechecker import lets_dispute
from lotback.disputepapers import dispute_paper
from lotback.disputes import findings_held, least_clashes, least_drops
from lotback.errors import InvalidPaper
from lotback.explaining import barrier_by, is_explained, story_of
from lotback.points import is_barrier
from lotback.stories import is_story
from tests.common import BOOK, CASE, ODD, PURE, Exact, with_changes
from tests.model import LOTS, broad_by_model, model_stories, random_case, subsets

TWO = (BOOK, (("bad", 3), ("bad", 4), ("clean", 2)), ("ash", "cedar"), 1)
CLASH, ONE, OTHER = (("bad", 3), ("bad", 4)), (("bad", 3),), (("bad", 4),)
# Three findings that clash only together: two lots at most, of three.
TINS = (("tank", "heap"), ("tin", "heap"), ("vat", "heap"))
THREE = ((TINS, (*[("come", place, lot, 2) for (place, _), lot in zip(TINS, LOTS)], *[("sell", place, 1) for place, _ in TINS])),
         (("bad", 3), ("bad", 4), ("bad", 5)), ("ash", "birch", "cedar"), 2)


def alone(case, findings):
    return (case[0], findings, *case[2:])


def without(case, findings):
    return alone(case, tuple(finding for finding in case[1] if finding not in findings))


def least_of(sets):
    return tuple(sorted(some for some in sets if not any(set(other) < set(some) for other in sets)))


class Disputes(Exact):
    def compared(self, case, explained):
        """With what tells whether the case is explained by some findings alone."""
        sets = subsets(case[1])
        clashes = least_of([some for some in sets if not explained(some)])
        drops = least_of([some for some in sets if explained(tuple(part for part in case[1] if part not in some))])
        self.told(clashes, least_clashes, case)
        self.told(drops, least_drops, case)
        self.exactly(clashes == (), drops == ((),))
        # (B4): each determines the other.
        for drop in drops:
            self.exactly([clash for clash in clashes if not set(clash) & set(drop)], [])
            for finding in drop:
                self.exactly(any(set(clash) & set(drop) == {finding} for clash in clashes), True)
        hitting = [some for some in sets if all(set(some) & set(clash) for clash in clashes)]
        self.exactly(least_of(hitting), drops)
        paper = dispute_paper(case)
        self.told((clashes, drops), lets_dispute, case, paper)
        self.confirmed(case, paper)
        return clashes

    def confirmed(self, case, paper):
        for some, barriers in paper[0]:
            self.exactly(len(barriers), len(broad_by_model(case)))
            for lots, points in zip(broad_by_model(case), barriers):
                self.exactly(is_barrier(alone(case, some), lots, points), True)
        for some, story in paper[1]:
            self.exactly(is_story(without(case, some), story), True)

    def test_all_stories(self):
        """All findings that contradict each other in small books, with all stories of the model for all sets of findings."""
        sizes = set()
        for seed in range(120):
            case = random_case(seed, 3 + seed % 6, 2, findings=6)
            free = model_stories(alone(case, ()))

            def explained(some, free=free):
                return any(all((word == "bad") == (sum(story[t]) > 0) for word, t in some) for story in free)
            clashes = self.compared(case, explained)
            sizes |= {len(clash) for clash in clashes}
        self.assertLessEqual({1, 2}, sizes)

    def test_few_suspects_of_many(self):
        sizes = set()
        for seed in range(40):
            case = random_case(seed + 5, 9, 2, findings=6)
            case = (*case[:2], tuple(LOTS), 1)
            free = model_stories(alone(case, ()))
            held = {tuple((("bad" if sum(story[t]) else "clean"), t) in case[1] for _, t in case[1]) for story in free}

            def explained(some, held=held, findings=case[1]):
                places = [findings.index(finding) for finding in some]
                return any(all(row[k] for k in places) for row in held)
            sizes |= {len(clash) for clash in self.compared(case, explained)}
        self.assertIn(2, sizes)

    def test_larger_books(self):
        several = 0
        for seed in range(40):
            case = random_case(seed + 31, 16, 20, findings=6)
            case = (*case[:2], tuple(LOTS), seed % 4)
            clashes = self.compared(case, lambda some, case=case: is_explained(alone(case, some)))
            several += len(clashes) > 1
        self.assertGreater(several, 3)

    def test_three_that_clash_only_together(self):
        self.told((THREE[1],), least_clashes, THREE)
        self.told(tuple((finding,) for finding in THREE[1]), least_drops, THREE)
        self.told(((THREE[1],), tuple((finding,) for finding in THREE[1])), lets_dispute, THREE, dispute_paper(THREE))
        # With few 1 any two of them.
        pairs = tuple(itertools.combinations(THREE[1], 2))
        self.told(pairs, least_clashes, (*THREE[:3], 1))
        self.told(pairs, least_drops, (*THREE[:3], 1))
        self.told(tuple((finding,) for finding in THREE[1]), least_clashes, (*THREE[:3], 0))
        self.told((THREE[1],), least_drops, (*THREE[:3], 0))
        self.told((), least_clashes, (*THREE[:3], 3))
        self.told(((),), least_drops, (*THREE[:3], 3))

    def test_what_a_story_holds(self):
        story = ((2,), (0,), (1,), (0,), (0,), (1, 0))
        self.exactly(findings_held(alone(CASE, tuple(("bad", t) for t in range(6))), story), (("bad", 0), ("bad", 2), ("bad", 5)))
        self.exactly(findings_held(alone(CASE, tuple(("clean", t) for t in range(6))), story), (("clean", 1), ("clean", 3), ("clean", 4)))

    def test_the_example(self):
        for case, clashes, drops in [(TWO, (CLASH,), (ONE, OTHER)), (CASE, (), ((),)), (PURE, (), ((),)), ((BOOK, (), (), 0), (), ((),))]:
            for call, wanted in [(least_clashes, clashes), (least_drops, drops)]:
                self.told(wanted, call, case)
                self.told(wanted, call, case=case)
            self.exactly(lets_dispute(case=case, thing=dispute_paper(case=case)), (clashes, drops))
            self.told(dispute_paper(case), dispute_paper, case)

    def test_explained(self):
        self.exactly(dispute_paper(CASE), ((), (((), story_of(CASE)),)))
        self.told(((), ((),)), lets_dispute, CASE, ((), (((), ((1,), (0,), (1,), (0,), (0,), (1, 0))),)))

    def test_more_suspects(self):
        """[44]: with more suspects, or a greater few, a drop stays one, and what is no clash stays none."""
        for seed in range(40):
            case = random_case(seed, 10, 4, findings=5)
            for more in [(*case[:2], tuple(LOTS), case[3]), (*case[:3], case[3] + 1)]:
                clashes, drops = least_clashes(case), least_drops(case)
                for drop in drops:
                    self.exactly(is_explained(without(more, drop)), True)
                    self.exactly(any(set(some) <= set(drop) for some in least_drops(more)), True)
                for clash in least_clashes(more):
                    self.exactly(any(set(some) <= set(clash) for some in clashes), True)

    def test_beyond_the_limits(self):
        for seed in range(4):
            case = random_case(seed + 2, 30, 25, findings=9)
            case = (*case[:2], tuple(LOTS), 2)
            self.told((least_clashes(case), least_drops(case)), lets_dispute, case, dispute_paper(case))


class Checker(Exact):
    def setUp(self):
        self.clashes, self.drops = dispute_paper(TWO)
        self.walls = self.clashes[0][1]
        self.one, self.other = self.drops[0][1], self.drops[1][1]

    def refused(self, word, at, thing, case=TWO):
        self.raising(InvalidPaper(word, at), lets_dispute, case, thing)
        self.raising(InvalidPaper(word, at), lets_dispute, case=case, thing=thing)

    def test_accepted(self):
        self.told(((CLASH,), (ONE, OTHER)), lets_dispute, TWO, (self.clashes, self.drops))

    def test_shape(self):
        clashes, drops = self.clashes, self.drops
        for thing in [*ODD, (clashes,), (clashes, drops, ()), [clashes, drops], (list(clashes), drops), (clashes, list(drops)),
                      (clashes, None), (None, drops), clashes, (drops[0], drops)]:
            self.refused("shape", -1, thing)
        for odd in [*[odd for odd in ODD if odd != (("tank", "heap"), 3)], (), (CLASH,), (CLASH, self.walls, ()), [CLASH, self.walls],
                    ("bad", CLASH), (list(CLASH), self.walls), (None, self.walls)]:
            self.refused("shape", -1, ((odd,), drops))
            self.refused("shape", -1, ((*clashes, odd), drops))
            self.refused("shape", -1, (clashes, (*drops, odd)))
            self.refused("shape", -1, ((((None,), None),), (odd,)))

    def test_set(self):
        clashes, drops = self.clashes, self.drops
        for some in [(None,), (("bad", 5),), (("clean", 3),), (("bad", True),), ("bad", 3), (["bad", 3],), CLASH[::-1], (CLASH[0], CLASH[0]),
                     (("bad", 3), ("bad", 4), ("clean", 2), ("clean", 2)), (("bad", 3), None), ((),), (1,), (CLASH,), (("bad",),)]:
            self.refused("set", (0, 0), (((some, self.walls), *clashes), drops))
            self.refused("set", (0, 1), ((*clashes, (some, None)), drops))
            self.refused("set", (1, 0), (clashes, ((some, self.one), *drops)))
            self.refused("set", (1, 1), (clashes, (drops[0], (some, None))))
            # Ahead of what is wrong later.
            self.refused("set", (0, 0), (((some, None), (some, None)), ((some, None),)))
            self.refused("set", (1, 0), ((), ((some, None), (some, None))))
        self.refused("set", (0, 1), ((clashes[0], clashes[0]), drops))
        self.refused("set", (0, 1), ((clashes[0], ((), None)), drops))
        self.refused("set", (1, 1), (clashes, drops[::-1]))
        self.refused("set", (1, 1), (clashes, (drops[0], drops[0])))
        self.refused("set", (1, 2), (clashes, (*drops, drops[1])))
        found = (BOOK, (("bad", 1), ("clean", 0)), ("ash",), 1)
        paper = dispute_paper(found)
        self.exactly(lets_dispute(found, paper), (((("bad", 1),),), ((("bad", 1),),)))
        self.refused("set", (0, 0), ((((("bad", True),), paper[0][0][1]),), paper[1]), found)
        self.refused("set", (1, 0), (paper[0], (((("bad", True),), paper[1][0][1]),)), found)

    def test_barriers(self):
        drops = self.drops
        one, other = self.walls
        for walls in [*ODD, None, (), (one,), (one, other, other), (other, one), (one, one), [one, other], (one, None), (one, list(other)),
                      (one, ()), ((), other), (one, (*other, None)), (one, other[::-1])]:
            self.refused("barriers", (0, 0), (((CLASH, walls),), drops))
            # Ahead of a wrong set behind it, and of all drops.
            self.refused("barriers", (0, 0), (((CLASH, walls), ((None,), None)), (((None,), None),)))
        # Barriers of the clash for a part of it.
        for some in [ONE, OTHER, (), (("clean", 2),)]:
            self.refused("barriers", (0, 0), (((some, self.walls),), drops))
        # With more findings a barrier stays one.
        self.refused("within", (0, 0), ((*self.clashes, (TWO[1], self.walls)), drops))
        # One for each broad set: suspects that never came make more of them.
        case = (*TWO[:2], ("ash", "cedar", "elm"), 1)
        more = (*self.walls, barrier_by(alone(case, CLASH), ("elm",)))
        self.told(((CLASH,), (ONE, OTHER)), lets_dispute, case, (((CLASH, more),), drops))
        self.refused("barriers", (0, 0), (self.clashes, drops), case)

    def test_story(self):
        clashes, drops = self.clashes, self.drops
        for story in [*ODD, None, self.other, list(self.one), (*self.one[:5], (1, 0)), CLASH]:
            self.refused("story", (1, 0), (clashes, ((ONE, story), drops[1])))
            self.refused("story", (1, 0), (clashes, ((ONE, story), ((None,), None))))
        self.refused("story", (1, 1), (clashes, (drops[0], (OTHER, self.one))))
        self.refused("story", (1, 0), (clashes, (((), self.one), *drops)))
        # A story of the whole case is one without any of the findings.
        story = story_of(CASE)
        self.told(((), ((),)), lets_dispute, CASE, ((), (((), story),)))
        self.refused("missing", (("bad", 5),), ((), ((CASE[1], story),)), CASE)

    def test_within(self):
        clashes, drops = self.clashes, self.drops
        both = (CLASH, story_of(without(TWO, CLASH)))
        wide = (TWO[1], self.walls)
        self.refused("within", (0, 0), ((clashes[0], wide), drops))
        self.refused("within", (1, 0), (clashes, (drops[0], both, drops[1])))
        self.refused("within", (1, 1), (clashes, (both, drops[1])))
        # The first tuple ahead of the second one, both ahead of missing.
        self.refused("within", (0, 0), ((clashes[0], wide), (both, drops[1])))
        self.refused("within", (1, 1), ((), (both, drops[1])))

    def test_missing(self):
        clashes, drops = self.clashes, self.drops
        self.refused("missing", (), ((), ()))
        self.refused("missing", (), (clashes, ()))
        self.refused("missing", CLASH, ((), drops))
        self.refused("missing", ONE, (clashes, drops[:1]))
        self.refused("missing", OTHER, (clashes, drops[1:]))
        # A clash or a drop that is no least one leaves others out.
        self.refused("missing", CLASH, (((TWO[1], self.walls),), drops))
        self.refused("missing", ONE, (clashes, ((CLASH, story_of(without(TWO, CLASH))),)))
        self.refused("missing", (("bad", 3),), ((), ((THREE[1], story_of(alone(THREE, ()))),)), THREE)

    def test_the_last_set_of_findings_is_missing(self):
        """All three together, behind all sets of two; and two, with one suspect alone."""
        drops = dispute_paper(THREE)[1]
        self.refused("missing", THREE[1], ((), drops), THREE)
        case = (((("tank", "heap"),), (("come", "tank", "ash", 2), ("sell", "tank", 1))), (("bad", 1), ("clean", 0)), ("ash",), 1)
        self.refused("missing", case[1], ((), dispute_paper(case)[1]), case)
        self.told(((case[1],), ((("bad", 1),), (("clean", 0),))), lets_dispute, case, dispute_paper(case))

    def test_few_0(self):
        case = (*CASE[:3], 0)
        paper = dispute_paper(case)
        self.exactly(lets_dispute(case, paper), ((CASE[1],), (CASE[1],)))
        self.exactly(len(paper[0][0][1]), 1)
        self.refused("barriers", (0, 0), (((CASE[1], ()),), paper[1]), case)

    def test_one_thing_changed(self):
        """What is accepted is true: with one thing changed at any depth, and papers of others."""
        accepted = refused = 0
        for seed in range(30):
            case = random_case(seed, 6, 2, findings=5)
            case = (*case[:2], tuple(LOTS[:3]), 1)
            paper = dispute_paper(case)
            others = [dispute_paper((*case[:3], few)) for few in (0, 1, 2)]
            for thing in itertools.chain(others, itertools.islice(with_changes(paper), 0, None, 9)):
                try:
                    self.exactly(lets_dispute(case, thing), (least_clashes(case), least_drops(case)))
                    accepted += 1
                except InvalidPaper:
                    refused += 1
        self.assertGreater(accepted, 30)
        self.assertGreater(refused, 300)
