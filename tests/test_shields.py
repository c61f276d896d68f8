"""[46], [47], [7], [8] (B2): the worst number of some sales, shields and bases."""
import itertools
import random

from lotback.errors import InvalidPaper, NoStory, NotUsable
from lotback.explaining import barrier_by, is_explained, story_by
from lotback.numberchecker import cover_worth, floor_worth
from lotback.numbers import numbers_of
from lotback.points import is_barrier, points_of
from lotback.shieldchecker import lets_base, lets_shield
from lotback.shields import base_of, shield_of, worst_number
from tests.common import BOOK, CASE, MANY, ODD, PURE, Exact, with_changes
from tests.model import (LOTS, broad_by_model, model_stories, number_by_model, random_case, sales_by_model, subsets)

COVER = ("cover", (("out", 3),))
SHIELD = (COVER, COVER)
BASE = (("floor", (("out", 5),)), ("floor", (("out", 5),)))
# By ash alone there is no story, by cedar there is one.
MIXED = (BOOK, (("bad", 5), ("clean", 2)), ("ash", "cedar"), 1)
WALL = ("barrier", (("in", 4), ("in", 5), ("out", 2), ("out", 4)))


def some_sales(case, seed):
    dice = random.Random(seed)
    sets = subsets(sales_by_model(case[0]))
    return sorted({(), sets[-1], sales_by_model(case[0]), *dice.sample(sets, min(2, len(sets)))})


class Existence(Exact):
    def confirmed(self, case, sales, numbers):
        """Shields and bases exist exactly if they should, and are accepted with how many are no barriers."""
        sets = broad_by_model(case)
        by = [story_by(case, lots) is not None for lots in sets]
        least, worst = (min(numbers), max(numbers)) if numbers else (None, None)
        tried = {0, 1, 10 ** 60} if worst is None else {0, 1, least - 1, least, least + 1, worst - 1, worst, worst + 1, 10 ** 60}
        for number in sorted(tried):
            shield, base = shield_of(case, sales, number), base_of(case, sales, number)
            self.exactly(shield is not None, worst is None or worst <= number)
            self.exactly(base is not None, least is None or least >= number)
            if shield is not None:
                self.accepted(lets_shield, case, sales, number, shield, by)
            if base is not None:
                self.accepted(lets_base, case, sales, number, base, by)
        return sets

    def accepted(self, call, case, sales, number, pairs, by):
        told = [word != "barrier" for word, _ in pairs]
        self.told(sum(told), call, case, sales, number, pairs)
        # Where there is a story there is no barrier; where there is none a cover could stand as well.
        self.exactly([k for k, story in enumerate(by) if story and not told[k]], [])
        for lots, (word, points) in zip(broad_by_model(case), pairs):
            if word == "barrier":
                self.exactly(is_barrier(case, lots, points), True)
            elif word == "cover":
                self.assertLessEqual(cover_worth(case, sales, lots, points), number)
            else:
                self.assertGreaterEqual(floor_worth(case, sales, lots, points), number)

    def test_all_stories(self):
        kinds = set()
        for seed in range(120):
            case = random_case(seed, 2 + seed % 7, 2, findings=4)
            stories = model_stories(case)
            for sales in some_sales(case, seed):
                numbers = {number_by_model(story, sales) for story in stories}
                self.confirmed(case, sales, numbers)
                if numbers:
                    self.told(max(numbers), worst_number, case, sales)
                else:
                    self.raising(NoStory(case[2]), worst_number, case, sales)
                kinds.add(bool(numbers))
        self.exactly(kinds, {False, True})

    def test_broad_sets_with_barriers(self):
        mixed = 0
        for seed in range(60):
            case = random_case(seed + 15, 9, 2, findings=5)
            case = (*case[:2], tuple(LOTS), 1 + seed % 2)
            by = [story_by(case, lots) is not None for lots in broad_by_model(case)]
            mixed += any(by) and not all(by)
            for sales in some_sales(case, seed):
                self.confirmed(case, sales, set(numbers_of(case, sales)))
        self.assertGreater(mixed, 8)

    def test_larger_books(self):
        for seed in range(20):
            case = random_case(seed + 140, 16, 20, findings=6)
            case = (*case[:2], tuple(LOTS), 3)
            sales = sales_by_model(case[0])[:6]
            numbers = numbers_of(case, sales)
            self.confirmed(case, sales, set(numbers))
            if numbers:
                self.told(numbers[-1], worst_number, case, sales)

    def test_beyond_the_limits(self):
        big = 10 ** 59
        book = ((("line", "pipe"), ("tank", "heap")), (
            ("come", "tank", "ash", big), ("come", "tank", "birch", big), ("move", "tank", "line", big + 3), ("sell", "line", 7),
            ("sell", "tank", 5)))
        case = (book, (), ("ash", "birch", "elm"), 1)
        self.confirmed(case, (3, 4), {0, 12})
        self.told(12, worst_number, case, (3, 4))
        case = random_case(4, 90, 30, findings=9)
        case = (*case[:2], tuple(LOTS), 2)
        sales = sales_by_model(case[0])
        self.exactly(worst_number(case, sales), numbers_of(case, sales)[-1])
        self.confirmed(case, sales, set(numbers_of(case, sales)))

    def test_the_example(self):
        for case, sales, worst in [(CASE, (3, 5), 4), (CASE, (3,), 2), (CASE, (), 0), (CASE, (5,), 4), (PURE, (5,), 1), ((BOOK, (), (), 0), (3, 5), 0)]:
            self.told(worst, worst_number, case, sales)
            self.told(worst, worst_number, case=case, sales=sales)
        self.told(2, lets_shield, CASE, (3,), 2, SHIELD)
        self.told(2, lets_shield, case=CASE, sales=(3,), number=2, thing=SHIELD)
        self.raising(InvalidPaper("points", 0), lets_shield, CASE, (3,), 1, SHIELD)
        self.told(2, lets_base, CASE, (5,), 1, BASE)
        self.told(2, lets_base, case=CASE, sales=(5,), number=1, thing=BASE)

    def test_a_book_without_rows(self):
        case = (((("tank", "heap"),), ()), (), ("ash", "elm"), 1)
        self.confirmed(case, (), {0})
        self.told(0, worst_number, case, ())

    def test_by_name_and_unchanged(self):
        self.told(shield_of(CASE, (3,), 2), shield_of, CASE, (3,), 2)
        self.exactly(shield_of(case=CASE, sales=(3,), number=2), shield_of(CASE, (3,), 2))
        self.told(base_of(CASE, (5,), 1), base_of, CASE, (5,), 1)
        self.exactly(base_of(case=CASE, sales=(5,), number=1), base_of(CASE, (5,), 1))

    def test_no_story(self):
        """worst_number tells the suspects; the others raise no NoStory."""
        case = (*PURE[:2], ("ash", "elm"), 1)
        self.raising(NoStory(("ash", "elm")), worst_number, case, (3,))
        self.raising(NoStory(("ash", "elm")), worst_number, case=case, sales=())
        for number in (0, 5):
            shield, base = shield_of(case, (3, 5), number), base_of(case, (3, 5), number)
            self.exactly(([word for word, _ in shield], [word for word, _ in base]), (["barrier"] * 2,) * 2)
            self.told(0, lets_shield, case, (3, 5), number, shield)
            self.told(0, lets_base, case, (3, 5), number, base)
        # Wrong sales ahead of NoStory.
        self.raising(NotUsable("sales", 0), worst_number, case, (2,))

    def test_wrong_sales(self):
        self.wrong_sales(worst_number)
        for call, more in [(shield_of, (3,)), (base_of, (0,)), (lets_shield, (3, None)), (lets_base, (0, ())), (lets_shield, (0, (("", None),)))]:
            self.wrong_sales(call, *more)


class Checker(Exact):
    def refused(self, word, at, thing, number=2, call=lets_shield, case=CASE, sales=(3,)):
        self.raising(InvalidPaper(word, at), call, case, sales, number, thing)
        self.raising(InvalidPaper(word, at), call, case=case, sales=sales, number=number, thing=thing)

    def test_accepted(self):
        self.told(2, lets_shield, CASE, (3,), 3, SHIELD)
        self.told(2, lets_shield, CASE, (3,), 10 ** 60, SHIELD)
        # A cover of a sale more is one of fewer.
        self.told(2, lets_shield, CASE, (), 2, SHIELD)
        self.told(2, lets_shield, CASE, (), 0, (("cover", ()), ("cover", ())))
        self.told(2, lets_base, CASE, (5,), 0, BASE)
        self.told(2, lets_base, CASE, (3, 5), 1, BASE)
        self.told(2, lets_base, CASE, (), 0, (("floor", ()), ("floor", ())))
        self.told(1, lets_shield, MIXED, (3,), 2, (WALL, COVER))
        self.told(2, lets_shield, MIXED, (3,), 2, (COVER, COVER))
        self.told(1, lets_base, MIXED, (5,), 1, (WALL, ("floor", (("out", 5),))))

    def test_greater_numbers_and_fewer_sales(self):
        for seed in range(40):
            case = random_case(seed, 9, 3, findings=2)
            sales = sales_by_model(case[0])
            if is_explained(case):
                worst = worst_number(case, sales)
                least = numbers_of(case, sales)[0]
                shield, base = shield_of(case, sales, worst), base_of(case, sales, least)
                covers = lets_shield(case, sales, worst, shield)
                for some in subsets(sales):
                    self.exactly(lets_shield(case, some, worst + 3, shield), covers)
                for number in range(least):
                    lets_base(case, sales, number, base)
                if worst > 0 and covers:
                    with self.assertRaises(InvalidPaper):
                        lets_shield(case, sales, worst - 1, shield)
                with self.assertRaises(InvalidPaper) if any(word == "floor" for word, _ in base) else self.subTest():
                    lets_base(case, sales, least + 1, base)

    def test_shape(self):
        for call, pair in [(lets_shield, COVER), (lets_base, BASE[0])]:
            for thing in [*[odd for odd in ODD if odd != ()], [pair, pair], pair, (pair, list(pair)), (pair, (*pair, ())), (pair, pair[:1]), (pair, None),
                          ((None, ()), pair), ((True, ()), pair), ((("cover",), ()), pair), "cover", (pair, "ab"), (pair, pair, ())]:
                self.refused("shape", -1, thing, call=call)

    def test_many(self):
        for call, pair in [(lets_shield, COVER), (lets_base, BASE[0]), (lets_shield, ("", None)), (lets_base, ("cover", ()))]:
            for thing in [(), (pair,), (pair,) * 3, (pair,) * 4]:
                self.refused("many", -1, thing, call=call)
        # One pair for each broad set, also of suspects that never came.
        case = (*CASE[:2], ("ash", "cedar", "elm"), 2)
        self.refused("many", -1, SHIELD, case=case)
        self.told(3, lets_shield, case, (3,), 2, (COVER,) * 3)
        self.told(1, lets_shield, (*CASE[:3], 2), (3,), 2, (COVER,))
        self.told(1, lets_shield, (*CASE[:3], 9), (3,), 2, (COVER,))
        self.told(1, lets_shield, (*CASE[:3], 0), (3,), 2, (COVER,))

    def test_word(self):
        for word in ["", "Cover", "covers", "floor", "story", "barrier "]:
            self.refused("word", 0, ((word, COVER[1]), COVER))
            self.refused("word", 1, (COVER, (word, None)))
            # Ahead of its points, and of the next pair; behind the pair before.
            self.refused("word", 0, ((word, None), (word, None)))
            self.refused("points", 0, (("cover", None), (word, None)))
        for word in ["", "cover", "Floor", "floors"]:
            self.refused("word", 0, ((word, ()), BASE[0]), 0, lets_base)
            self.refused("word", 1, (BASE[0], (word, None)), 0, lets_base, sales=(5,))

    def test_points(self):
        odd_points = [None, [], "", (None,), (("in", 9),), (("in", True),), (["in", 1],), (("out", 3), ("out", 3)), (("out", 3), ("in", 3)),
                      (("out", 3), None)]
        for points in [*odd_points, (), (("out", 5),), (("in", 3),)]:
            for word in ("cover", "barrier"):
                self.refused("points", 0, ((word, points), COVER), 10)
                self.refused("points", 1, (COVER, (word, points)), 10)
                self.refused("points", 0, ((word, points), ("", None)), 10)
        for points in odd_points:
            for word in ("floor", "barrier"):
                self.refused("points", 0, ((word, points), BASE[0]), 0, lets_base, sales=(5,))
                self.refused("points", 1, (BASE[0], (word, points)), 0, lets_base, sales=(5,))
        self.refused("points", 0, SHIELD, 1)
        self.refused("points", 0, SHIELD, 0)
        self.refused("points", 0, BASE, 2, lets_base, sales=(5,))
        self.refused("points", 0, BASE, 1, lets_base, sales=(3,))
        self.refused("points", 1, (BASE[0], ("floor", ())), 1, lets_base, sales=(5,))
        # A cover of other sales; covers exchanged with those of other sets.
        self.refused("points", 0, SHIELD, 9, sales=(3, 5))
        self.refused("points", 1, (COVER, WALL), case=MIXED)
        self.refused("points", 0, (("barrier", COVER[1]), COVER), case=MIXED)
        shield = shield_of(CASE, (5,), 4)
        self.told(2, lets_shield, CASE, (5,), 4, shield)
        self.refused("points", 0, shield, 3, sales=(5,))
        self.refused("points", 0, (("barrier", ()), COVER), 3)

    def test_odd_numbers(self):
        """What is no integer is no number for which there could be a cover or a floor."""
        for odd in [None, True, False, "2", (2,), [2]]:
            self.exactly((shield_of(CASE, (), odd), base_of(CASE, (), odd)), (None, None))
            self.refused("points", 0, SHIELD, odd, sales=())
            self.refused("points", 0, BASE, odd, lets_base, sales=())
        self.exactly((shield_of(CASE, (3,), -1), base_of(CASE, (3,), -1) is None), (None, False))

    def test_one_thing_changed(self):
        """What is accepted is true: with one thing changed at any depth, for other sales, numbers and sets."""
        accepted = refused = 0
        for seed in range(25):
            case = random_case(seed + 3, 7, 2, findings=3)
            case = (*case[:2], tuple(LOTS[:4]), 1)
            sales = sales_by_model(case[0])
            numbers = numbers_of(case, sales)
            worst, least = max(numbers, default=0), min(numbers, default=0)
            for call, pairs in [(lets_shield, shield_of(case, sales, worst)), (lets_base, base_of(case, sales, least))]:
                others = [pairs, pairs[::-1], shield_of(case, sales[1:], worst), base_of(case, sales[1:], 0), pairs[1:] + pairs[:1]]
                for thing in itertools.chain(others, itertools.islice(with_changes(pairs), 0, None, 5)):
                    for number in (worst - 1, least + 1):
                        try:
                            call(case, sales, number, thing)
                        except InvalidPaper:
                            refused += 1
                        else:
                            true = [told <= number if call is lets_shield else told >= number for told in numbers]
                            self.exactly(all(true), True)
                            accepted += 1
        self.assertGreater(accepted, 30)
        self.assertGreater(refused, 300)

    def test_barriers_of_each_set(self):
        case = (BOOK, (("bad", 4), ("clean", 0)), ("ash", "birch", "cedar"), 1)
        wall = [("barrier", barrier_by(case, (lot,))) for lot in ("ash", "birch")]
        self.told(1, lets_shield, case, (5,), 1, (*wall, ("cover", (
            ("heap", "tank", 0), ("heap", "tank", 1), ("in", 0), ("in", 1), ("in", 2), ("in", 5), ("out", 0), ("out", 1), ("out", 2), ("out", 5)))))
        self.told(0, lets_base, (*case[:2], ("ash", "birch"), 1), (5,), 7, tuple(wall))
        self.refused("points", 2, (*wall, wall[0]), 9, case=case)

    def test_points_of_all_sets(self):
        """A shield of all points, if all units may come."""
        points = points_of(BOOK)
        self.told(2, lets_shield, CASE, (3, 5), 4, (("cover", points), ("cover", points)))
        self.refused("points", 0, (("cover", points), ("cover", points)), 3, sales=(3, 5))
        self.told(2, lets_shield, MANY[:2] + (("ash", "birch"), 1), (3, 5, 7), 4, (("cover", points_of(MANY[0])),) * 2)
