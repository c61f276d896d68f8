"""[6], [22], [23]: points, ways, sums, barriers; and parameters lots."""
import itertools
import random

from lotback.bookparts import units_in
from lotback.errors import NotUsable
from lotback.explainchecker import lets_explain
from lotback.explaining import barrier_by, explain_paper, story_by
from lotback.points import is_barrier, points_of, sums_of, ways_of
from tests.common import BOOK, CASE, LONG, ODD, PURE, Exact
from tests.model import lot_sets, model_stories, random_book, random_case, units_of_book

HEAPS = (("tank", "heap"), ("vat", "heap"))
# The tank becomes empty with row 1, and gets units again with row 2.
EMPTIED = ((HEAPS, (("come", "tank", "ash", 3), ("move", "tank", "vat", 3), ("come", "tank", "ash", 2), ("waste", "vat", 3))),
           (("bad", 1), ("clean", 2)), ("ash",), 1)


def order(way):
    """The stated order of ways."""
    one, other, _, _ = way
    return (other is None, other or (), one is not None, one or ())


class Ways(Exact):
    def test_points(self):
        heaps = [("heap", "tank", t) for t in (0, 1, 2, 3)]
        rows = [(side, t) for side in ("in", "out") for t in range(6)]
        self.told((*heaps, *rows), points_of, BOOK)
        self.told((*heaps, *rows), points_of, book=BOOK)
        self.told((), points_of, (BOOK[0], ()))
        self.exactly(points_of(EMPTIED[0]), (
            ("heap", "tank", 0), ("heap", "tank", 1), ("heap", "tank", 2), ("heap", "vat", 1), ("heap", "vat", 3),
            ("in", 0), ("in", 1), ("in", 2), ("in", 3), ("out", 0), ("out", 1), ("out", 2), ("out", 3)))
        self.exactly([point for point in points_of(LONG) if point[0] == "heap"], [
            ("heap", "tank", 3), ("heap", "tank", 4), ("heap", "tank", 5), ("heap", "vat", 8), ("heap", "vat", 9),
            ("heap", "vat", 11)])

    def test_all_ways(self):
        heap = [("heap", "tank", t) for t in range(4)]
        wanted = (
            (("out", 0), heap[0], 0, 4),
            (heap[0], heap[1], 0, 4), (("out", 1), heap[1], 0, 4),
            (heap[1], heap[2], 0, 3),
            (heap[2], heap[3], 0, 1),
            (None, ("in", 0), 0, 4), (None, ("in", 1), 0, 0), (heap[1], ("in", 2), 0, 5), (heap[2], ("in", 3), 0, 2),
            (None, ("in", 4), 0, 0), (("out", 2), ("in", 5), 0, 5), (("out", 4), ("in", 5), 0, 1),
            *[(("in", t), ("out", t), 0, n) for t, n in enumerate((4, 4, 5, 2, 3))], (("in", 5), ("out", 5), 1, 6),
            (heap[3], None, 0, 1), (("out", 3), None, 0, 2), (("out", 4), None, 0, 2), (("out", 5), None, 0, 6))
        self.told(wanted, ways_of, CASE, ("ash",))
        self.told(wanted, ways_of, case=CASE, lots=("ash",))

    def test_ways_with_all_lots_and_none(self):
        from_outside = [way for way in ways_of((*CASE[:2], ("ash", "birch", "cedar"), 3), ("ash", "cedar")) if way[0] is None]
        self.exactly(from_outside, [(None, ("in", 0), 0, 4), (None, ("in", 1), 0, 0), (None, ("in", 4), 0, 3)])
        self.exactly([way for way in ways_of(CASE, ()) if way[0] is None and way[3] > 0], [])

    def test_findings_of_both_words(self):
        passing = [way for way in ways_of(PURE, ("ash",)) if way[0] is not None and way[0][0] == "in"]
        self.exactly([way[2:] for way in passing], [(0, 4), (0, 4), (0, 0), (0, 2), (0, 3), (1, 6)])

    def test_a_heap_that_became_empty(self):
        tank, vat = ("heap", "tank"), ("heap", "vat")
        self.exactly(ways_of(EMPTIED, ("ash",)), (
            (("out", 0), (*tank, 0), 0, 3), (("out", 2), (*tank, 2), 0, 2), (("out", 1), (*vat, 1), 0, 3),
            (None, ("in", 0), 0, 3), ((*tank, 0), ("in", 1), 0, 3), (None, ("in", 2), 0, 2), ((*vat, 1), ("in", 3), 0, 3),
            (("in", 0), ("out", 0), 0, 3), (("in", 1), ("out", 1), 1, 3), (("in", 2), ("out", 2), 0, 0),
            (("in", 3), ("out", 3), 0, 3), ((*tank, 2), None, 0, 2), (("out", 3), None, 0, 3)))

    def test_pipes_taken_from_by_parts_and_sales_back(self):
        ways = ways_of((LONG, (), ("ash",), 1), ("ash",))
        ends = {way[:2]: way[3] for way in ways}
        parts = [((("out", s), ("in", t)), m) for t, s, m in [
            (2, 0, 3), (3, 0, 2), (3, 1, 2), (6, 2, 3), (7, 1, 2), (7, 6, 2), (8, 5, 7), (10, 9, 2), (11, 9, 1), (13, 9, 4),
            (13, 12, 1)]]
        for ends_of_way, m in parts:
            self.exactly(ends[ends_of_way], m)
        self.exactly([way for way in ways if way[1] is None], [
            (("heap", "tank", 5), None, 0, 3), (("heap", "vat", 11), None, 0, 1), (("out", 6), None, 0, 1),
            (("out", 7), None, 0, 4), (("out", 10), None, 0, 2), (("out", 12), None, 0, 1), (("out", 13), None, 0, 5)])
        self.exactly((("heap", "vat", 8), ("heap", "vat", 9)) in ends, False)
        self.exactly((("heap", "vat", 9), ("heap", "vat", 11)) in ends, False)

    def test_order_and_one_way_between_two_points(self):
        for seed in range(60):
            case = random_case(seed, seed % 17, 5)
            for lots in lot_sets(case)[:3]:
                ways = ways_of(case, lots)
                self.exactly(sorted(ways, key=order), list(ways))
                self.exactly(len({way[:2] for way in ways}), len(ways))
                points = points_of(case[0])
                self.exactly(tuple(sorted(set(points))), points)
                for one, other, least, greatest in ways:
                    self.assertIn(one, (None, *points))
                    self.assertIn(other, (None, *points))
                    self.assertTrue(0 <= least <= greatest)

    def test_units_pass_evenly(self):
        """Without findings and with all lots the greatest numbers are the units that pass: all come out that come in."""
        for seed in range(60):
            book = random_book(seed, 16, 6)
            lots = tuple(sorted({row[2] for row in book[1] if row[0] == "come"}))
            ways = ways_of((book, (), lots, 9), lots)
            for point in points_of(book):
                come = sum(way[3] for way in ways if way[1] == point)
                go = sum(way[3] for way in ways if way[0] == point)
                self.exactly(come, go)
                if point[0] == "heap":
                    self.exactly(come, units_in(book, point[1], point[2] + 1))

    def test_each_story_passes_along_the_ways(self):
        """Bad units of a story, as numbers on ways, are between the limits and even at each point."""
        for seed in range(40):
            case = random_case(seed, 6, 2)
            ways = {way[:2]: way[2:] for way in ways_of((*case[:3], 9), case[2])}
            for story in sorted(model_stories(case))[:30]:
                numbers = numbers_on_ways(case[0], story, ways)
                for ends, (least, greatest) in ways.items():
                    self.assertTrue(least <= numbers[ends] <= greatest, (seed, story, ends))


def numbers_on_ways(book, story, ways):
    """The numbers of bad units on all ways: those of parts and of rows by the story, the others are what is over."""
    numbers = {ends: None for ends in ways}
    parts = units_of_book(book).parts
    for t, told in enumerate(story):
        numbers[("in", t), ("out", t)] = sum(told)
        ones = [ends for ends in ways if ends[1] == ("in", t)]
        for i, (s, _) in enumerate(parts[t]):
            ends = ones[0] if s is None else (("out", s), ("in", t))
            numbers[ends] = told[i]
        for ends in ways:
            if ends[0] == ("out", t) and ends[1] is not None and ends[1][0] == "heap":
                numbers[ends] = sum(told)
    # A heap keeps what came to its point and was not taken; so do parcels in pipes.
    for point in sorted(points_of(book), key=lambda point: point[-1]):
        if point[0] != "in":
            come = sum(numbers[ends] for ends in ways if ends[1] == point)
            if point[0] == "heap":
                go = sum(numbers[ends] for ends in ways if ends[0] == point and ends[1] is not None and ends[1][0] == "in")
                keep = [ends for ends in ways if ends[0] == point and (ends[1] is None or ends[1][0] == "heap")]
            else:
                go = sum(numbers[ends] for ends in ways if ends[0] == point and ends[1] is not None)
                keep = [ends for ends in ways if ends[0] == point and ends[1] is None]
            for ends in keep:
                numbers[ends] = come - go
            assert keep or come == go
    return numbers


class Sums(Exact):
    def test_sums(self):
        self.told((6, 0, 6, 1), sums_of, CASE, ("ash",), (("in", 5),))
        self.told((6, 1, 6, 0), sums_of, case=CASE, lots=("ash",), points=(("out", 5),))
        self.told((6, 0, 6, 0), sums_of, CASE, ("ash",), (("in", 5), ("out", 5)))
        self.told((3, 0, 3, 0), sums_of, CASE, ("cedar",), (("in", 4),))
        self.told((0, 0, 3, 0), sums_of, CASE, ("ash",), (("in", 4),))

    def test_sums_of_no_points_and_of_all(self):
        for case in (CASE, PURE, EMPTIED):
            for lots in lot_sets(case):
                self.exactly(sums_of(case, lots, ()), (0, 0, 0, 0))
                ways = ways_of(case, lots)
                come = sum(way[3] for way in ways if way[0] is None)
                go = sum(way[3] for way in ways if way[1] is None)
                self.exactly(sums_of(case, lots, points_of(case[0])), (come, 0, go, 0))

    def test_sums_and_barriers_of_any_points(self):
        dice = random.Random(5)
        for seed in range(60):
            case = random_case(seed, 1 + seed % 14, 4)
            points = points_of(case[0])
            some = tuple(sorted(dice.sample(points, dice.randint(0, len(points)))))
            for lots in lot_sets(case)[-2:]:
                sums = [0, 0, 0, 0]
                for one, other, least, greatest in ways_of(case, lots):
                    if other in some and one not in some:
                        sums[0] += greatest
                        sums[1] += least
                    if one in some and other not in some:
                        sums[2] += greatest
                        sums[3] += least
                self.told(tuple(sums), sums_of, case, lots, some)
                self.told(sums[3] > sums[0] or sums[1] > sums[2], is_barrier, case, lots, some)
                self.told(sums[3] > sums[0] or sums[1] > sums[2], is_barrier, case=case, lots=lots, points=some)
                found = {t: word for word, t in case[1]}
                bad = [t for t in found if found[t] == "bad"]
                self.exactly(sums[1], sum(("out", t) in some and ("in", t) not in some for t in bad))
                self.exactly(sums[3], sum(("in", t) in some and ("out", t) not in some for t in bad))

    def test_barriers_of_both_kinds(self):
        self.exactly(is_barrier(PURE, ("ash",), (("in", 4), ("in", 5), ("out", 2), ("out", 4))), True)
        self.exactly(is_barrier(PURE, ("cedar",), (("in", 4), ("in", 5), ("out", 2), ("out", 4))), False)
        # What must come into ("out", 0) cannot go on: the sale of all is found clean.
        case = (((("tank", "heap"),), (("come", "tank", "ash", 2), ("sell", "tank", 2))), (("bad", 0), ("clean", 1)), ("ash",), 1)
        self.exactly(is_barrier(case, ("ash",), (("heap", "tank", 0), ("in", 1), ("out", 0))), True)
        self.exactly(sums_of(case, ("ash",), (("heap", "tank", 0), ("in", 1), ("out", 0))), (2, 1, 0, 0))
        self.exactly(is_barrier(CASE, ("ash",), ()), False)

    def test_no_more_than_is_no_barrier(self):
        """As many as can come in may have to go out."""
        case = (((("tank", "heap"),), (("come", "tank", "ash", 1), ("sell", "tank", 1))), (("bad", 0),), ("ash",), 1)
        self.exactly(sums_of(case, ("ash",), (("in", 0),)), (1, 0, 1, 1))
        self.exactly(is_barrier(case, ("ash",), (("in", 0),)), False)
        self.exactly(sums_of(case, (), (("in", 0),)), (0, 0, 1, 1))
        self.exactly(is_barrier(case, (), (("in", 0),)), True)

    def test_wrong_points(self):
        for call in (sums_of, is_barrier):
            for points in [None, [], [("in", 5)], "", 3, True]:
                self.raising(NotUsable("points", -1), call, CASE, ("ash",), points)
            for odd in [*ODD, (), ("in", 6), ("in", True), ("in", -1), ("out", False), ["in", 1], ("heap", "tank", 4), ("in", "1"),
                        ("heap", "tank", True), ("heap", "line", 0), ("heap", "tank"), ("heap", 0, "tank"), (None, 1), ("in",),
                        ("in", 1, 1), "in", ("In", 1), (("in",), 1), ("in", (1,)), ("in", 10 ** 60), ("heap", ["tank"], 0)]:
                self.raising(NotUsable("points", 0), call, CASE, ("ash",), (odd,))
                self.raising(NotUsable("points", 1), call, CASE, ("ash",), (("in", 0), odd, ("in", 0)))
            self.raising(NotUsable("points", 1), call, CASE, ("ash",), (("in", 1), ("in", 0), None))
            self.raising(NotUsable("points", 1), call, CASE, ("ash",), (("in", 1), ("in", 1)))
            self.raising(NotUsable("points", 2), call, CASE, ("ash",), (("in", 1), ("out", 1), ("heap", "tank", 0)))

    def test_with_more_lots_none_can_do_less(self):
        for seed in range(40):
            case = random_case(seed, 10, 4)
            for lots in lot_sets(case):
                for part in itertools.combinations(lots, max(0, len(lots) - 1)):
                    for way, other in zip(ways_of(case, lots), ways_of(case, part)):
                        self.assertEqual(way[:3], other[:3])
                        self.assertTrue(way[3] >= other[3] and (way[3] == other[3] or way[0] is None))


class Lots(Exact):
    """The parameter lots is looked at ahead of all else."""

    def test_wrong_lots(self):
        three = (BOOK, (), ("ash", "birch", "cedar"), 2)
        calls = [(ways_of, ()), (sums_of, (None,)), (sums_of, ((None,),)), (is_barrier, (None,)), (is_barrier, ((None,),)),
                 (story_by, ()), (barrier_by, ()), (explain_paper, ()), (lets_explain, (None,)),
                 (lets_explain, (("story", ()),))]
        for call, more in calls:
            for lots in [None, [], ["ash"], "ash", 3, True, ("ash", "birch", "cedar"), (None, None, None), ("ash",) * 3]:
                self.raising(NotUsable("lots", -1), call, three, lots, *more)
            self.raising(NotUsable("lots", -1), call, (*three[:3], 0), ("ash",), *more)
            for odd in [*ODD, "elm", "Ash", ("ash",), ["ash"], 0, BOOK]:
                self.raising(NotUsable("lots", 0), call, three, (odd,), *more)
                self.raising(NotUsable("lots", 1), call, three, ("ash", odd), *more)
                self.raising(NotUsable("lots", 0), call, three, (odd, None), *more)
            self.raising(NotUsable("lots", 1), call, three, ("ash", "ash"), *more)
            self.raising(NotUsable("lots", 1), call, three, ("birch", "ash"), *more)
            self.raising(NotUsable("lots", 0), call, (*three[:2], (), 2), ("ash",), *more)

    def test_suspects_that_never_came(self):
        case = (BOOK, (), ("ash", "elm"), 2)
        self.exactly(ways_of(case, ("ash", "elm")), ways_of(case, ("ash",)))
        self.exactly(ways_of(case, ("elm",)), ways_of(case, ()))
