"""[5], [24], [26], [27]: stories."""
import itertools
import types

from lotback.bookparts import beginning
from lotback.errors import InvalidPaper
from lotback.points import is_barrier, points_of
from lotback.stories import all_stories, guilty_of, is_story, lets_story
from tests.common import BOOK, CASE, LONG, ODD, Exact
from tests.model import LOTS, all_tuples, lot_sets, model_stories, random_case, units_of_book

TANK = (("tank", "heap"),)
BOTH = (("line", "pipe"), ("tank", "heap"))
GOOD = ((2,), (0,), (1,), (0,), (0,), (1, 0))


def changed(story, t, numbers):
    return (*story[:t], numbers, *story[t + 1:])


class Checker(Exact):
    def accepted(self, came, guilty, case, story):
        self.told(came, lets_story, case, story)
        self.told(came, lets_story, case=case, thing=story)
        self.told(True, is_story, case, story)
        self.told(True, is_story, case=case, thing=story)
        self.told(guilty, guilty_of, case, story)
        self.told(guilty, guilty_of, case=case, story=story)

    def refused(self, word, at, case, thing):
        self.raising(InvalidPaper(word, at), lets_story, case, thing)
        self.raising(InvalidPaper(word, at), lets_story, case=case, thing=thing)
        self.exactly(is_story(case, thing), False)

    def test_accepted(self):
        self.accepted(2, ("ash",), CASE, GOOD)
        self.accepted(4, ("ash",), CASE, ((4,), (0,), (4,), (0,), (0,), (4, 0)))
        self.accepted(3, ("cedar",), CASE, ((0,), (0,), (0,), (0,), (3,), (0, 1)))
        self.accepted(6, ("ash", "cedar"), (*CASE[:3], 2), ((3,), (0,), (3,), (0,), (3,), (3, 1)))
        self.accepted(0, (), (BOOK, (), (), 0), ((0,), (0,), (0,), (0,), (0,), (0, 0)))
        self.accepted(0, (), ((TANK, ()), (), (), 0), ())

    def test_shape(self):
        odd_ones = [odd for odd in ODD if odd != ((), (), ())]
        for thing in [*odd_ones, list(GOOD), changed(GOOD, 1, [0]), changed(GOOD, 1, 0), changed(GOOD, 1, (True,)), (1,), ((0,), None),
                      changed(GOOD, 5, (1, False)), changed(GOOD, 5, (1, -1)), changed(GOOD, 5, (1, None)), "story", None]:
            self.refused("shape", -1, CASE, thing)
        for odd in ODD:
            self.refused("shape", -1, CASE, changed(GOOD, 2, (odd,)))
        # Ahead of all else: too few rows, too many units.
        self.refused("shape", -1, CASE, ((99,), [0]))

    def test_many(self):
        for thing in [(), GOOD[:5], (*GOOD, ()), ((),), ((0,),) * 5, ((99,),) * 7]:
            self.refused("many", -1, CASE, thing)

    def test_parts(self):
        for t in range(6):
            for numbers in [(), (*GOOD[t], 0), (9, 9, 9)]:
                self.refused("parts", t, CASE, changed(GOOD, t, numbers))
        self.refused("parts", 5, CASE, changed(GOOD, 5, (1,)))
        # Ahead of all else about this row, behind all about rows before.
        self.refused("parts", 5, CASE, changed(GOOD, 5, (99,)))
        self.refused("part", (0, 0), CASE, ((5,), (), *GOOD[2:]))

    def test_part(self):
        self.refused("part", (0, 0), CASE, changed(GOOD, 0, (5,)))
        self.refused("part", (2, 0), CASE, changed(GOOD, 2, (6,)))
        self.refused("part", (5, 0), CASE, changed(GOOD, 5, (6, 0)))
        self.refused("part", (5, 1), CASE, changed(GOOD, 5, (1, 2)))
        self.refused("part", (5, 0), CASE, changed(GOOD, 5, (6, 2)))
        self.refused("part", (0, 0), CASE, changed(GOOD, 0, (10 ** 60,)))
        # Ahead of lot and of rest.
        self.refused("part", (1, 0), CASE, changed(GOOD, 1, (5,)))
        self.refused("part", (3, 0), CASE, changed(GOOD, 3, (3,)))

    def test_same(self):
        case = ((BOTH, (("come", "line", "ash", 2), ("come", "line", "ash", 2), ("sell", "line", 3), ("back", 2, "tank"))),
                (("clean", 3),), ("ash",), 1)
        story = ((2,), (1,), (2, 1), (3,))
        self.refused("finding", 3, case, story)
        for number in (0, 1, 2):
            self.refused("same", (3, 0), case, changed(story, 3, (number,)))
        self.refused("part", (3, 0), case, changed(story, 3, (4,)))
        self.accepted(3, ("ash",), (*case[:1], (), *case[2:]), story)

    def test_rest_in_a_heap(self):
        book = (TANK, (("come", "tank", "ash", 4), ("sell", "tank", 3), ("waste", "tank", 1)))
        case = (book, (), ("ash",), 1)
        self.refused("rest", (1, 0), case, ((1,), (2,), (0,)))
        self.refused("rest", (1, 0), case, ((4,), (2,), (0,)))
        self.refused("rest", (1, 0), case, ((0,), (1,), (9,)))
        self.refused("rest", (2, 0), case, ((2,), (1,), (0,)))
        self.refused("rest", (2, 0), case, ((1,), (1,), (1,)))
        self.accepted(4, ("ash",), case, ((4,), (3,), (1,)))
        self.accepted(1, ("ash",), case, ((1,), (0,), (1,)))

    def test_rest_in_a_pipe(self):
        book = ((("line", "pipe"),), (("come", "line", "ash", 2), ("come", "line", "birch", 3), ("sell", "line", 3),
                                      ("waste", "line", 1)))
        case = (book, (("clean", 2),), ("ash", "birch"), 1)
        self.refused("rest", (2, 0), case, ((2,), (0,), (1, 0), (0,)))
        self.refused("rest", (2, 0), case, ((1,), (0,), (2, 0), (0,)))
        self.refused("rest", (2, 1), case, ((0,), (0,), (0, 1), (0,)))
        self.refused("rest", (2, 1), case, ((0,), (3,), (0, 0), (0,)))
        self.refused("rest", (3, 0), (book, (), *case[2:]), ((0,), (1,), (0, 1), (1,)))
        # All of one part ahead of the next.
        self.refused("rest", (2, 0), case, ((1,), (0,), (2, 2), (0,)))
        self.refused("part", (2, 1), case, ((1,), (0,), (1, 2), (0,)))
        self.refused("few", -1, (book, (), *case[2:]), ((2,), (1,), (2, 0), (0,)))

    def test_lot(self):
        self.refused("lot", 1, CASE, ((0,), (1,), (0,), (0,), (0,), (0, 0)))
        self.refused("lot", 4, (*CASE[:2], ("ash",), 1), ((0,), (0,), (0,), (0,), (1,), (0, 1)))
        # Ahead of the finding, and of few.
        found = (BOOK, (("clean", 1),), (), 0)
        self.refused("lot", 1, found, ((0,), (1,), (0,), (0,), (0,), (0, 0)))

    def test_finding(self):
        self.refused("finding", 5, CASE, ((1,), (0,), (0,), (0,), (0,), (0, 0)))
        self.refused("finding", 2, (BOOK, (("clean", 2),), ("ash",), 1), GOOD)
        self.refused("finding", 4, (BOOK, (("bad", 4),), ("ash",), 1), GOOD)
        self.refused("finding", 0, (BOOK, (("clean", 0),), ("ash",), 0), GOOD)

    def test_few(self):
        story = ((2,), (0,), (1,), (0,), (1,), (1, 0))
        self.refused("few", -1, CASE, story)
        self.refused("few", -1, (BOOK, (), ("ash", "birch", "cedar"), 2), ((1,), (1,), (1,), (0,), (1,), (1, 0)))
        self.refused("few", -1, (BOOK, (), ("ash",), 0), GOOD)
        # A lot that comes twice is one.
        book = (TANK, (("come", "tank", "ash", 1), ("come", "tank", "ash", 1)))
        self.accepted(2, ("ash",), (book, (), ("ash",), 1), ((1,), (1,)))

    def test_big_numbers(self):
        big = 10 ** 59
        book = (BOTH, (("come", "tank", "ash", big), ("move", "tank", "line", big - 1), ("sell", "line", 7)))
        case = (book, (("bad", 2),), ("ash",), 1)
        self.accepted(big, ("ash",), case, ((big,), (big - 1,), (7,)))
        self.refused("rest", (1, 0), case, ((big,), (big - 2,), (7,)))

    def test_long_book(self):
        stories = [((5,), (0,), (3,), (2, 0), (0,), (2,), (3,), (0, 2), (2,), (2,), (0,), (0,), (0,), (2, 0))]
        for story in stories:
            self.accepted(5, ("ash",), (LONG, (("bad", 8), ("clean", 1)), ("ash",), 1), story)

    def test_guilty_of_no_story(self):
        with self.assertRaises(InvalidPaper):
            guilty_of(CASE, ((9,),))


class AllStories(Exact):
    def test_all(self):
        self.assertIsInstance(all_stories(CASE), types.GeneratorType)
        self.assertIsInstance(all_stories(case=CASE), types.GeneratorType)
        small = (((("line", "pipe"), ("tank", "heap")), (("come", "tank", "ash", 2), ("move", "tank", "line", 1), ("sell", "line", 1))),
                 (), ("ash",), 1)
        self.exactly(list(all_stories(small)), [
            ((0,), (0,), (0,)), ((1,), (0,), (0,)), ((1,), (1,), (1,)), ((2,), (1,), (1,))])
        self.exactly(list(all_stories((*small[:2], (), 1))), [((0,), (0,), (0,))])
        self.exactly(list(all_stories((small[0], (("bad", 2),), (), 1))), [])
        self.exactly(list(all_stories(((TANK, ()), (), (), 0))), [()])

    def test_each_tuple_is_tried(self):
        for seed in range(110):
            case = random_case(seed, 1 + seed % 6, 2)
            possible = model_stories(case)
            told = list(all_stories(case))
            self.exactly(told, sorted(possible))
            for story in itertools.islice(all_tuples(case[0], 1), 1500):
                self.exactly(is_story(case, story), story in possible)

    def test_larger_books(self):
        for seed in range(60):
            case = random_case(seed + 500, 8, 3)
            possible = model_stories(case)
            told = list(all_stories(case))
            self.exactly(told, sorted(possible))
            for story in told[:100]:
                self.exactly(lets_story(case, story), sum(
                    numbers[0] for row, numbers in zip(case[0][1], story) if row[0] == "come"))
                guilty = {row[2] for row, numbers in zip(case[0][1], story) if row[0] == "come" and numbers[0]}
                self.exactly(guilty_of(case, story), tuple(sorted(guilty)))

    def test_the_example(self):
        stories = list(all_stories(CASE))
        self.exactly(stories, sorted(model_stories(CASE)))
        tried = [story for story in all_tuples(BOOK) if is_story(CASE, story)]
        self.exactly(tried, stories)

    def test_the_most_that_is_asked(self):
        book = (TANK, tuple(("come", "tank", LOTS[t % 5], 3) for t in range(8)))
        self.exactly(sum(1 for _ in all_stories((book, (), tuple(LOTS), 5))), 4 ** 8)

    def test_nothing_is_lost(self):
        """[27]: with more suspects, a greater few, fewer findings; and in the beginning of the book."""
        for seed in range(60):
            case = random_case(seed, 6, 2)
            book, findings, suspects, few = case
            for story in itertools.islice(all_stories(case), 40):
                for other in [(book, findings, tuple(LOTS), few), (book, findings, suspects, few + 1), (book, findings[1:], suspects, few),
                              (book, findings[:-1], suspects, few), (book, (), tuple(LOTS), 9)]:
                    self.exactly(is_story(other, story), True)
                for t in range(7):
                    before = tuple(finding for finding in findings if finding[1] < t)
                    self.exactly(is_story((beginning(book, t), before, suspects, few), story[:t]), True)

    def test_nobody_suspected(self):
        for seed in range(40):
            book, findings, _, few = random_case(seed, 7, 3)
            clean = tuple(finding for finding in findings if finding[0] == "clean")
            nothing = tuple((0,) * len(parts) for parts in units_of_book(book).parts)
            self.exactly(list(all_stories((book, clean, (), few))), [nothing])
            bad = tuple(finding for finding in findings if finding[0] == "bad")
            self.exactly(list(all_stories((book, bad, (), few))), [] if bad else [nothing])


class Barriers(Exact):
    def test_a_story_or_a_barrier_among_all_sets_of_points(self):
        """(B1), by trying every set of points of small books."""

        for seed in range(30):
            case = random_case(seed, 1 + seed % 3, 2)
            points = points_of(case[0])
            stories = sorted(model_stories(case))
            for lots in lot_sets(case)[:4]:
                by_lots = [story for story in stories if set(guilty_of(case, story)) <= set(lots)]
                sets = (some for k in range(len(points) + 1) for some in itertools.combinations(points, k))
                self.exactly(any(is_barrier(case, lots, some) for some in sets), not by_lots)
