"""[34], [7], [8] (B2), [43]: the numbers of bad units in some sales."""
import random

from lotback.errors import NoStory, NotUsable
from lotback.explaining import is_explained, story_by
from lotback.numberchecker import lets_number
from lotback.numberpapers import number_paper
from lotback.numbers import greatest_number, least_number, numbers_of, story_with
from lotback.stories import guilty_of, lets_story
from tests.common import BOOK, CASE, MANY, ODD, PURE, Exact
from tests.model import (LOTS, broad_by_model, lot_sets, model_stories, number_by_model, random_case, sales_by_model, stories_by,
                         subsets)


def some_sales(case, seed, most=4):
    """Some sets of sales outside: none, all, and others by chance."""
    dice = random.Random(seed)
    sets = subsets(sales_by_model(case[0]))
    return sorted({(), sets[-1], sales_by_model(case[0]), *dice.sample(sets, min(most, len(sets)))})


class SmallBooks(Exact):
    def by_lots(self, case, sales, lots, stories):
        numbers = {number_by_model(story, sales) for story in stories}
        for number in [-1, True, None, *range(max(numbers, default=0) + 3), 10 ** 60]:
            story = story_with(case, sales, lots, number)
            if number is True or number not in numbers:
                self.exactly(story, None)
            else:
                self.assertIn(story, stories)
                self.exactly(number_by_model(story, sales), number)
        if not numbers:
            self.raising(NoStory(lots), least_number, case, sales, lots)
            self.raising(NoStory(lots), greatest_number, case, sales, lots)
            return
        # (B2): no gap.
        self.exactly(sorted(numbers), list(range(min(numbers), max(numbers) + 1)))
        self.told(min(numbers), least_number, case, sales, lots)
        self.told(max(numbers), greatest_number, case, sales, lots)

    def compared(self, case, seed):
        stories = sorted(model_stories(case))
        for sales in some_sales(case, seed):
            self.told(tuple(sorted({number_by_model(story, sales) for story in stories})), numbers_of, case, sales)
            for lots in lot_sets(case):
                self.by_lots(case, sales, lots, set(stories_by(case, stories, lots)))

    def test_all_stories(self):
        told = set()
        for seed in range(140):
            case = random_case(seed, 2 + seed % 7, 2)
            self.compared(case, seed)
            told.add(numbers_of(case, ()))
        self.exactly(told, {(), (0,)})

    def test_many_findings_and_suspects(self):
        for seed in range(60):
            case = random_case(seed + 40, 8, 2, findings=6)
            self.compared((*case[:2], tuple(LOTS), 1 + seed % 2), seed)

    def test_a_book_without_rows(self):
        for suspects, few, lots in [((), 0, ()), (("ash", "elm"), 0, ()), (("ash", "elm"), 1, ("elm",)), (("ash", "elm"), 2, ("ash", "elm"))]:
            case = (((("tank", "heap"),), ()), (), suspects, few)
            self.told((0,), numbers_of, case, ())
            self.told(0, least_number, case, (), lots)
            self.told(0, greatest_number, case, (), lots)
            self.told((), story_with, case, (), lots, 0)
            self.told(None, story_with, case, (), lots, 1)
            for word in ("least", "greatest"):
                self.told((word, 0), lets_number, case, (), lots, number_paper(case, (), lots, word))

    def test_the_least_is_the_same_by_all_lots(self):
        for seed in range(60):
            case = random_case(seed, 8, 3)
            for sales in some_sales(case, seed):
                least = {least_number(case, sales, lots) for lots in lot_sets(case) if story_by(case, lots) is not None}
                self.assertLessEqual(len(least), 1)
                numbers = numbers_of(case, sales)
                self.exactly(list(numbers[:1]), sorted(least))

    def test_more_lots_and_findings(self):
        """[43]: with more lots greatest numbers are no less, with a finding more they are no greater, and least ones no less."""
        for seed in range(50):
            book, findings, suspects, few = random_case(seed, 10, 4, findings=5)
            case = (book, findings, tuple(LOTS), few)
            for sales in some_sales(case, seed, 2):
                numbers = numbers_of(case, sales)
                fewer = numbers_of((book, findings[1:], tuple(LOTS), few), sales)
                self.assertLessEqual(set(numbers), set(fewer))
                self.assertLessEqual(set(numbers_of((book, findings, suspects, few), sales)), set(numbers))
                self.assertLessEqual(set(numbers), set(numbers_of((book, findings, tuple(LOTS), few + 1), sales)))

    def test_several_sales(self):
        """[43]: together at most the sum, and with one sale more at most by its units greater; a clean one has none."""
        for seed in range(40):
            case = random_case(seed, 12, 4, findings=1)
            sales = sales_by_model(case[0])
            if is_explained(case):
                greatest = {some: numbers_of(case, some)[-1] for some in subsets(sales)}
                for some in subsets(sales):
                    self.assertLessEqual(greatest[some], sum(greatest[(t,)] for t in some))
                    for t in some:
                        others = tuple(s for s in some if s != t)
                        self.assertLessEqual(greatest[some], greatest[others] + case[0][1][t][2])
                for t in sales:
                    about = (*[finding for finding in case[1] if finding[1] != t], ("clean", t))
                    clean = (case[0], tuple(sorted(about)), *case[2:])
                    self.assertIn(numbers_of(clean, (t,)), [(0,), ()])


class Larger(Exact):
    def test_sixteen_rows_of_twenty_units(self):
        explained = 0
        for seed in range(25):
            case = random_case(seed + 300, 16, 20, findings=4)
            case = (*case[:2], tuple(LOTS), 3)
            for sales in some_sales(case, seed, 2):
                numbers = numbers_of(case, sales)
                told = [self.papers(case, sales, lots) for lots in broad_by_model(case)]
                pairs = [pair for pair in told if pair is not None]
                explained += len(pairs) > 0
                if pairs:
                    least, greatest = min(pairs)[0], max(pair[1] for pair in pairs)
                    self.exactly(numbers, tuple(range(least, greatest + 1)))
                else:
                    self.exactly(numbers, ())
        self.assertGreater(explained, 30)

    def papers(self, case, sales, lots):
        if story_by(case, lots) is None:
            self.raising(NoStory(lots), number_paper, case, sales, lots, "least")
            return None
        least, greatest = least_number(case, sales, lots), greatest_number(case, sales, lots)
        self.exactly(lets_number(case, sales, lots, number_paper(case, sales, lots, "least")), ("least", least))
        self.exactly(lets_number(case, sales, lots, number_paper(case, sales, lots, "greatest")), ("greatest", greatest))
        for number in {least - 1, least, (least + greatest) // 2, greatest, greatest + 1}:
            story = story_with(case, sales, lots, number)
            self.exactly(story is not None, least <= number <= greatest)
            if story is not None:
                lets_story(case, story)
                self.exactly(number_by_model(story, sales), number)
                self.assertLessEqual(set(guilty_of(case, story)), set(lots))
        return least, greatest

    def test_beyond_the_limits(self):
        case = random_case(8, 120, 25, findings=3)
        case = (*case[:2], tuple(LOTS), 2)
        sales = sales_by_model(case[0])
        for lots in broad_by_model(case)[:3]:
            self.papers(case, sales, lots)
        big = 10 ** 59
        book = ((("line", "pipe"), ("tank", "heap")), (
            ("come", "tank", "ash", big), ("come", "tank", "birch", big), ("move", "tank", "line", big + 3), ("sell", "line", 7),
            ("sell", "tank", 5), ("sell", "line", big - 10)))
        case = (book, (("bad", 4),), ("ash", "birch"), 1)
        self.exactly(numbers_of(case, (3, 4)), tuple(range(1, 13)))
        self.exactly(greatest_number(case, (3, 4, 5), ("ash",)), big)
        self.exactly(greatest_number((*case[:3], 2), (5,), ("ash", "birch")), big - 10)
        self.exactly(number_by_model(story_with(case, (4, 5), ("ash",), big - 6), (4, 5)), big - 6)
        self.papers(case, (3, 5), ("birch",))


class Parameters(Exact):
    def test_the_example(self):
        self.told(1, least_number, CASE, (5,), ("ash",))
        self.told(4, greatest_number, CASE, (5,), ("ash",))
        self.told((1, 2, 3, 4), numbers_of, CASE, (5,))
        self.told((0, 1, 2), numbers_of, CASE, (3,))
        self.told((0,), numbers_of, CASE, ())
        self.told((1, 2, 3, 4), numbers_of, CASE, (3, 5))

    def test_by_name(self):
        self.exactly(least_number(lots=("ash",), sales=(5,), case=CASE), 1)
        self.exactly(greatest_number(lots=("ash",), sales=(5,), case=CASE), 4)
        self.exactly(numbers_of(sales=(5,), case=CASE), (1, 2, 3, 4))
        self.exactly(story_with(number=4, lots=("ash",), sales=(5,), case=CASE), story_with(CASE, (5,), ("ash",), 4))
        self.exactly(number_paper(word="least", lots=("ash",), sales=(5,), case=CASE), number_paper(CASE, (5,), ("ash",), "least"))

    def test_odd_numbers(self):
        for odd in [*ODD, 5, 0, "1", [1], CASE, 10 ** 59]:
            self.told(None, story_with, CASE, (5,), ("ash",), odd)
        self.told(None, story_with, CASE, (), ("ash",), False)

    def test_no_story(self):
        for sales in [(), (3,), (3, 5)]:
            for call in (least_number, greatest_number):
                self.raising(NoStory(("ash",)), call, PURE, sales, ("ash",))
                self.raising(NoStory(()), call, PURE, sales, ())
            for word in ("least", "greatest"):
                self.raising(NoStory(("ash",)), number_paper, PURE, sales, ("ash",), word)
            for number in (0, 1, 2, None):
                self.told(None, story_with, PURE, sales, ("ash",), number)
            self.told((), numbers_of, (*PURE[:2], ("ash",), 1), sales)
            self.told((), numbers_of, (BOOK, (("bad", 3), ("clean", 2), ("clean", 3))[:1], (), 2), sales)

    def test_wrong_lots_and_sales(self):
        for call, more in [(least_number, ()), (greatest_number, ()), (story_with, (0,)), (story_with, (None,)),
                           (number_paper, ("least",)), (number_paper, ("greatest",))]:
            self.wrong_lots(call, *more, ahead=((3,),))
            # Lots are looked at ahead of sales, sales ahead of whether there is a story.
            self.wrong_lots(call, *more, ahead=(None,))
            self.wrong_sales(call, (), *more)
            self.wrong_sales(call, ("ash", "birch"), *more)
            self.raising(NotUsable("lots", 0), call, PURE, None, ("birch",), *more)
            self.raising(NotUsable("sales", 0), call, PURE, (2,), ("ash",), *more)
            self.raising(NotUsable("sales", -1), call, PURE, [3], ("ash",), *more)
        self.wrong_sales(numbers_of)
        self.raising(NotUsable("sales", 1), numbers_of, (*PURE[:2], ("ash",), 1), (3, 3))

    def test_sales_that_came_back(self):
        self.raising(NotUsable("sales", 0), numbers_of, MANY, (1,))
        # Until the row "back" it is a sale outside.
        ahead = ((MANY[0][0], MANY[0][1][:2]), *MANY[1:])
        self.told((0, 1, 2), numbers_of, ahead, (1,))
