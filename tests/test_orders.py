"""[46], [55], [56], [58], [8] (B7): fills, their cases, the safest ones, order papers and their checker."""
import itertools
import random

from lotback.casechecker import lets_case
from lotback.errors import InvalidPaper, NoStory, NotUsable
from lotback.explaining import is_explained
from lotback.orderchecker import lets_order
from lotback.orders import filled, fills, order_paper, safest
from lotback.shieldchecker import lets_shield
from lotback.shields import shield_of, worst_number
from lotback.stories import is_story
from tests.common import BARRED, BOOK, CASE, MANY, ODD, PURE, Exact, with_changes
from tests.model import LOTS, model_stories, number_by_model, random_case, subsets, units_of_book

BOTH = ("line", "tank")


def there_by_model(case, places):
    units = units_of_book(case[0])
    return [len(units.there[place]) for place in places]


def fills_by_model(case, places, units):
    every = itertools.product(*[range(many + 1) for many in there_by_model(case, places)])
    return [fill for fill in every if sum(fill) == units]


def filled_by_model(case, places, fill):
    (all_places, rows), findings, suspects, few = case
    sold = tuple(("sell", place, n) for place, n in zip(places, fill) if n)
    return ((all_places, rows + sold), findings, suspects, few), tuple(range(len(rows), len(rows) + len(sold)))


def all_orders(case):
    """All pairs of a set of places and of units that they have."""
    names = [place for place, _ in case[0][0]]
    for places in subsets(names):
        for units in range(1, sum(there_by_model(case, places)) + 1 if places else 1):
            yield places, units


class Orders(Exact):
    def confirmed(self, case, places, units, worst_of):
        every = fills_by_model(case, places, units)
        self.exactly(list(fills(case, places, units)), every)
        worst = {}
        for fill in every:
            wanted = filled_by_model(case, places, fill)
            self.told(wanted, filled, case, places, fill)
            lets_case(wanted[0])
            worst[fill] = worst_of(*wanted)
        if worst[every[0]] is None:
            for call in (safest, order_paper):
                self.raising(NoStory(case[2]), call, case, places, units)
            return None
        least = min(worst.values())
        self.told((least, tuple(fill for fill in every if worst[fill] == least)), safest, case, places, units)
        paper = order_paper(case, places, units)
        self.told(paper, order_paper, case, places, units)
        self.told(least, lets_order, case, places, units, paper)
        self.true_paper(case, places, every, paper, least, worst)
        return len(set(worst.values()))

    def true_paper(self, case, places, every, paper, least, worst):
        """Each part of an order paper is what the document says."""
        fill, number, shield, stories = paper
        self.exactly((number, worst[fill], len(stories)), (least, least, len(every)))
        longer, sales = filled_by_model(case, places, fill)
        lets_shield(longer, sales, number, shield)
        for other, story in zip(every, stories):
            longer, sales = filled_by_model(case, places, other)
            self.exactly((is_story(longer, story), number_by_model(story, sales) >= least), (True, True))

    def test_all_stories(self):
        different = set()
        for seed in range(60):
            case = random_case(seed, 3 + seed % 4, 2, findings=2)
            case = (*case[:2], case[2], max(1, case[3]))

            def worst_of(longer, sales):
                return max((number_by_model(story, sales) for story in model_stories(longer)), default=None)
            orders = list(all_orders(case))
            for places, units in random.Random(seed).sample(orders, min(5, len(orders))):
                different.add(self.confirmed(case, places, units, worst_of))
        self.assertLessEqual({None, 1, 2}, different)

    def test_larger_books(self):
        """By the worst numbers of all fills, at most thirty."""
        different = set()
        for seed in range(20):
            case = random_case(seed + 140, 16, 20, findings=6)
            case = (*case[:2], tuple(LOTS), 3)
            names = tuple(place for place, _ in case[0][0])
            there = there_by_model(case, names)
            for places in {names[:2], names[1:], names, names[::2]}:
                for units in (1, 2, 5, 9, 14, sum(there) - 1, sum(there)):
                    if places and 0 < units <= sum(there_by_model(case, places)) and is_explained(case):
                        if len(fills_by_model(case, places, units)) <= 30:
                            different.add(self.confirmed(case, places, units, worst_number))
        self.assertTrue(max(different) > 3, different)

    def test_beyond_the_limits(self):
        big = 10 ** 59
        case = (((("line", "pipe"), ("tank", "heap")), (("come", "line", "ash", big), ("come", "tank", "birch", 3))), (), ("ash", "birch"), 1)
        self.exactly(list(fills(case, BOTH, big)), [(big - 3, 3), (big - 2, 2), (big - 1, 1), (big, 0)])
        self.told((big - 3, ((big - 3, 3),)), safest, case, BOTH, big)
        self.told(big - 3, lets_order, case, BOTH, big, order_paper(case, BOTH, big))
        self.exactly(list(fills(case, BOTH, big + 3)), [(big, 3)])
        self.exactly(list(fills(case, ("line",), 10 ** 58)), [(10 ** 58,)])

    def test_the_example(self):
        self.exactly(list(fills(CASE, BOTH, 2)), [(1, 1), (2, 0)])
        self.exactly(list(fills(case=CASE, places=BOTH, units=3)), [(2, 1)])
        self.told((1, ((1, 1),)), safest, CASE, BOTH, 2)
        self.told((2, ((2,),)), safest, CASE, ("line",), 2)
        self.exactly(safest(case=CASE, places=BOTH, units=3), safest(CASE, BOTH, 3))
        self.exactly(order_paper(case=CASE, places=BOTH, units=3), order_paper(CASE, BOTH, 3))
        self.exactly(filled(case=CASE, places=BOTH, fill=(0, 1)), filled(CASE, BOTH, (0, 1)))
        self.told((((BOOK[0], (*BOOK[1], ("sell", "tank", 1))), *CASE[1:]), (6,)), filled, CASE, BOTH, (0, 1))
        self.told((((BOOK[0], (*BOOK[1], ("sell", "line", 2), ("sell", "tank", 1))), *CASE[1:]), (6, 7)), filled, CASE, BOTH, (2, 1))
        for places, units in all_orders(CASE):
            self.confirmed(CASE, places, units, worst_number)

    def test_a_generator(self):
        told = fills(CASE, BOTH, 2)
        self.exactly((next(told), next(told), next(told, None)), ((1, 1), (2, 0), None))
        self.assertIs(iter(told), told)

    def test_more_suspects(self):
        """[58]: with more suspects the worst number of no fill falls."""
        for seed in range(20):
            case = random_case(seed, 8, 3, findings=2)
            more = (*case[:2], tuple(LOTS), case[3])
            if is_explained(case):
                for places, units in list(all_orders(case))[:6]:
                    for fill in fills(case, places, units):
                        self.assertLessEqual(worst_number(*filled(case, places, fill)), worst_number(*filled(more, places, fill)))

    def test_no_story(self):
        case = (*PURE[:2], ("ash", "elm"), 1)
        for call in (safest, order_paper):
            self.raising(NoStory(("ash", "elm")), call, case, BOTH, 2)
            self.raising(NoStory(("ash", "elm")), call, case=case, places=("tank",), units=1)
            self.raising(NotUsable("units", -1), call, case, BOTH, 4)
            self.raising(NotUsable("places", 1), call, case, ("line", "line"), 4)
        self.exactly(list(fills(case, BOTH, 2)), [(1, 1), (2, 0)])
        self.told(filled_by_model(case, BOTH, (1, 1)), filled, case, BOTH, (1, 1))
        # The checker raises no NoStory either: but of no fill there is a story.
        longer, sales = filled(case, BOTH, (1, 1))
        self.raising(InvalidPaper("story", 0), lets_order, case, BOTH, 2, ((1, 1), 0, shield_of(longer, sales, 0), (None, None)))

    def test_wrong_parameters(self):
        def all_fills(case, places, units):
            return list(fills(case, places, units))
        for call in (all_fills, safest, order_paper):
            self.wrong_places(call, 1)
            self.wrong_places(call, None)
            self.wrong_units(call)
        self.wrong_places(lets_order, 1, None)
        self.wrong_units(lets_order, ((1, 0), 1, (), ()))
        self.wrong_places(filled, (1,))
        self.wrong_places(filled, None)

    def test_wrong_fills(self):
        """One unit in the tank, one in the tin."""
        for case in (MANY, BARRED):
            self.told(filled_by_model(case, ("tank", "tin"), (0, 1)), filled, case, ("tank", "tin"), (0, 1))
            for fill in [*ODD, (), (1,), (0, 0), (2, 0), (0, 2), (1, 1, 1), (1, 0, 0), [1, 0], (1, True), (False, 1), (1, None), (1, -1), (1, "1"), ("1", 1),
                         ((1,), 1), (10 ** 60, 1), (1, 10 ** 60), "11", 1, (-1, 2)]:
                self.raising(NotUsable("fill", -1), filled, case, ("tank", "tin"), fill)
            self.raising(NotUsable("fill", -1), filled, case, ("tank",), (0,))
            self.raising(NotUsable("fill", -1), filled, case, ("tank",), (1, 1))
            self.raising(NotUsable("places", 1), filled, case, ("tin", "tank"), (None,))


class Checker(Exact):
    def setUp(self):
        self.paper = order_paper(CASE, BOTH, 2)
        self.fill, self.worst, self.shield, self.stories = self.paper

    def refused(self, word, at, thing, case=CASE, places=BOTH, units=2):
        self.raising(InvalidPaper(word, at), lets_order, case, places, units, thing)
        self.raising(InvalidPaper(word, at), lets_order, case=case, places=places, units=units, thing=thing)

    def test_accepted(self):
        self.told(1, lets_order, CASE, BOTH, 2, self.paper)
        self.exactly(lets_order(case=CASE, places=BOTH, units=2, thing=self.paper), 1)
        # Stories may have more than worst.
        more = ((2,), (0,), (1,), (0,), (0,), (1, 0), (0,), (1,)), ((0,), (0,), (0,), (0,), (2,), (0, 1), (1,))
        self.told(1, lets_order, CASE, BOTH, 2, (*self.paper[:3], more))

    def test_shape(self):
        fill, worst, shield, stories = self.paper
        for thing in [*ODD, list(self.paper), self.paper[:3], (*self.paper, ()), (fill, None, shield, stories), (fill, True, shield, stories),
                      (fill, -1, shield, stories), (fill, "1", shield, stories), (fill, (1,), shield, stories), (fill, 1, shield, list(stories)),
                      (fill, 1, shield, None), (None, -1, None, ()), (None, 1, None, []), "abcd"]:
            self.refused("shape", -1, thing)

    def test_fill(self):
        _, worst, shield, stories = self.paper
        for fill in [*ODD, (), (1,), (0, 2), (3, -1), (1, 0), (2, 1), (0, 0), [1, 1], (1, True), (True, True), (1, 1, 0), (1, "1"), None]:
            self.refused("fill", -1, (fill, worst, shield, stories))
            self.refused("fill", -1, (fill, 7, None, (None,)))

    def test_shield(self):
        fill, worst, shield, stories = self.paper
        for other in [*ODD, (), shield[:1], (*shield, shield[0]), shield[::-1], list(shield), (("barrier", shield[0][1]), shield[1]), None]:
            self.refused("shield", -1, (fill, worst, other, stories))
            self.refused("shield", -1, (fill, worst, other, (None,)))
        self.refused("shield", -1, (fill, 0, shield, stories))
        # Another fill: its sales are others.
        self.refused("shield", -1, ((2, 0), worst, shield, stories))
        longer, sales = filled(CASE, BOTH, (2, 0))
        self.refused("story", 0, ((2, 0), 2, shield_of(longer, sales, 2), stories))

    def test_many(self):
        fill, worst, shield, stories = self.paper
        for some in [(), stories[:1], (*stories, stories[0]), (None,), (None, None, None)]:
            self.refused("many", -1, (fill, worst, shield, some))

    def test_story(self):
        fill, worst, shield, stories = self.paper
        one, other = stories
        for story in [*ODD, None, (), list(one), one[:6], CASE]:
            self.refused("story", 0, (fill, worst, shield, (story, other)))
            self.refused("story", 0, (fill, worst, shield, (story, None)))
            self.refused("story", 1, (fill, worst, shield, (one, story)))
        # Of the other fill; with fewer bad units.
        self.refused("story", 0, (fill, worst, shield, (other, one)))
        self.refused("story", 1, (fill, worst, shield, (one, one)))
        few = ((2,), (0,), (1,), (0,), (0,), (1, 0), (0,), (0,))
        self.refused("story", 0, (fill, worst, shield, (few, other)))
        self.refused("story", 0, (fill, worst + 1, shield_of(*filled(CASE, BOTH, fill), 2), stories))

    def test_one_thing_changed(self):
        """What is accepted is true: with one thing changed at any depth, and for other orders."""
        accepted = refused = 0
        for seed in range(16):
            case = random_case(seed + 5, 6, 2, findings=2)
            case = (*case[:2], tuple(LOTS[:3]), 1)
            if is_explained(case):
                for places, units in list(all_orders(case))[:5]:
                    paper = order_paper(case, places, units)
                    others = [order_paper((*case[:3], 2), places, units)]
                    for thing in itertools.chain(others, itertools.islice(with_changes(paper), 0, None, 13)):
                        try:
                            self.exactly(lets_order(case, places, units, thing), safest(case, places, units)[0])
                            accepted += 1
                        except InvalidPaper:
                            refused += 1
        self.assertGreater(accepted, 30)
        self.assertGreater(refused, 400)
