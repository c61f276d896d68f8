"""[34]: the numbers of some sales as objects."""
from lotback.errors import NotUsable
from lotback.numberobjects import Numbers
from lotback.stories import guilty_of, lets_story
from tests.common import BOOK, CASE, MANY, ODD, PURE, Exact
from tests.model import (LOTS, lot_sets, model_stories, number_by_model, random_case, sales_by_model, stories_by)


class Asked(Exact):
    def confirmed(self, numbers, wanted, case, sales, lots):
        """The object has just the wanted numbers, with stories by lots."""
        wanted = sorted(wanted)
        self.exactly((list(numbers), len(numbers)), (wanted, len(wanted)))
        self.exactly((numbers.least, numbers.greatest), (wanted[0], wanted[-1]) if wanted else (None, None))
        for number in [*range(max(wanted, default=0) + 3), -1, 10 ** 60, True, False, None, "0", (0,), [1], numbers]:
            inside = number is not True and number is not False and number in wanted
            self.exactly(number in numbers, inside)
            if inside:
                story = numbers.with_number(number)
                lets_story(case, story)
                self.exactly(number_by_model(story, sales), number)
                if lots is not None:
                    self.assertLessEqual(set(guilty_of(case, story)), set(lots))
            else:
                self.raising(NotUsable("number", number), numbers.with_number, number)

    def test_all_stories(self):
        for seed in range(70):
            case = random_case(seed, 1 + seed % 8, 2)
            stories = model_stories(case)
            sales = sales_by_model(case[0])
            for some in {(), sales, sales[:1]}:
                self.confirmed(Numbers(case, some), {number_by_model(story, some) for story in stories}, case, some, None)
                for lots in lot_sets(case)[-3:]:
                    by_lots = stories_by(case, stories, lots)
                    self.confirmed(Numbers(case, some, lots=lots), {number_by_model(story, some) for story in by_lots}, case, some, lots)

    def test_with_number_looks_at_all_sets(self):
        """Some numbers are those of stories by one set alone."""
        book = ((("tank", "heap"), ("tin", "heap")), (
            ("come", "tank", "ash", 2), ("come", "tin", "birch", 5), ("sell", "tank", 2), ("sell", "tin", 4)))
        case = (book, (), ("ash", "birch", "elm"), 1)
        numbers = Numbers(case, (2, 3))
        self.confirmed(numbers, range(5), case, (2, 3), None)
        self.exactly(guilty_of(case, numbers.with_number(4)), ("birch",))
        self.confirmed(Numbers(case, (2, 3), lots=("ash",)), range(3), case, (2, 3), ("ash",))
        self.confirmed(Numbers(case, (2,)), range(3), case, (2,), None)
        self.confirmed(Numbers(case, (3,), lots=("ash",)), [0], case, (3,), ("ash",))
        self.confirmed(Numbers((*case[:3], 3), (2, 3)), range(7), (*case[:3], 3), (2, 3), None)

    def test_the_example(self):
        numbers = Numbers(CASE, (5,))
        self.exactly([list(numbers), len(numbers), 0 in numbers, numbers.greatest], [[1, 2, 3, 4], 4, False, 4])
        self.exactly(list(Numbers(CASE, (5,), lots=("cedar",))), [1])
        self.exactly(list(Numbers(case=CASE, sales=(3,), lots=None)), [0, 1, 2])

    def test_none(self):
        for numbers in [Numbers((*PURE[:2], ("ash",), 1), (3,)), Numbers(PURE, (), lots=("ash",)), Numbers(PURE, (5,), lots=())]:
            self.confirmed(numbers, [], PURE, (), None)
            self.exactly((0 in numbers, bool(list(numbers))), (False, False))

    def test_iterated_twice_and_side_by_side(self):
        numbers = Numbers(CASE, (3,))
        for _ in range(2):
            self.exactly((list(numbers), [*numbers], tuple(numbers), sum(numbers)), ([0, 1, 2], [0, 1, 2], (0, 1, 2), 3))
        self.exactly([(one, other) for one in numbers for other in numbers], [(one, other) for one in range(3) for other in range(3)])

    def test_odd_values(self):
        numbers = Numbers(CASE, (5,))
        for odd in [*ODD, 0, 5, -1, "1", (1,), [1], CASE, numbers, 10 ** 59, True]:
            self.exactly(odd in numbers, False)
            self.raising(NotUsable("number", odd), numbers.with_number, odd)
            self.raising(NotUsable("number", odd), numbers.with_number, number=odd)
        for odd in (True, False):
            self.exactly(odd in Numbers(CASE, (3,)), False)
            self.raising(NotUsable("number", odd), Numbers(CASE, (3,)).with_number, odd)
        self.exactly(numbers.with_number(number=2), numbers.with_number(2))

    def test_equal(self):
        numbers = Numbers(CASE, (5,))
        self.exactly((numbers == Numbers(CASE, (5,)), numbers != Numbers(CASE, (5,))), (True, False))
        self.exactly(numbers == Numbers(CASE, (5,), lots=("ash",)), True)
        self.exactly(numbers == Numbers(CASE, (3, 5)), True)
        self.exactly((numbers == Numbers(CASE, (3,)), numbers != Numbers(CASE, (3,))), (False, True))
        self.exactly(Numbers(CASE, (3,)) == Numbers((BOOK, (), ("birch",), 2), (3,)), True)
        self.exactly(Numbers(PURE, (), lots=()) == Numbers((*PURE[:2], (), 0), (3, 5)), True)
        self.exactly(Numbers(PURE, (), lots=()) == Numbers(CASE, ()), False)
        for thing in [*ODD, (1, 2, 3, 4), [1, 2, 3, 4], {1, 2, 3, 4}, range(1, 5), 1, [numbers], (numbers,), CASE]:
            self.exactly((numbers == thing, thing == numbers, numbers != thing), (False, False, True))

    def test_wrong_lots_and_sales(self):
        self.wrong_sales(Numbers)
        self.wrong_sales(lambda case, sales: Numbers(case, sales, lots=("ash",)))

        def by_lots(case, lots):
            return Numbers(case, (3,), lots=lots)
        for lots in [[], ["ash"], "ash", "", 3, 0, True, False, ("ash", "birch", "cedar")]:
            self.raising(NotUsable("lots", -1), by_lots, MANY, lots)
            # Ahead of the sales.
            self.raising(NotUsable("lots", -1), Numbers, MANY, None, lots=lots)
        for at, lots in [(0, ("elm",)), (0, (None,)), (1, ("ash", "ash")), (1, ("birch", "ash")), (1, ("ash", True)), (0, (("ash",), "ash"))]:
            self.raising(NotUsable("lots", at), by_lots, MANY, lots)
            self.raising(NotUsable("lots", at), Numbers, MANY, (1,), lots=lots)

    def test_defined_in_the_class_itself(self):
        self.assertLessEqual({"least", "greatest", "with_number", "__eq__", "__len__", "__iter__", "__contains__"}, set(vars(Numbers)))
        for name in ("least", "greatest"):
            self.assertIsInstance(vars(Numbers)[name], property)

    def test_nothing_changes(self):
        case = (BOOK, (("bad", 5),), tuple(LOTS), 2)
        numbers = Numbers(case, (3, 5))
        before = list(numbers)
        for number in (*before, None):
            number in numbers, numbers == numbers, numbers.least, numbers.greatest
        self.exactly((list(numbers), numbers.least, numbers.greatest), (before, before[0], before[-1]))
