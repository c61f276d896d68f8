"""[30] to [32]: stories as objects."""
import types

from lotback.errors import InvalidPaper, NoStory, NotUsable
from lotback.storyobjects import Story
from lotback.stories import lets_story
from tests.common import BOOK, CASE, LONG, ODD, PURE, Exact
from tests.model import guilty_by_model, lot_sets, model_stories, random_case, sales_by_model, units_of_book

GOOD = ((2,), (0,), (1,), (0,), (0,), (1, 0))
LONG_CASE = (LONG, (("bad", 8), ("clean", 1)), ("ash", "elm"), 1)
LONG_STORY = ((5,), (0,), (3,), (2, 0), (0,), (2,), (3,), (0, 2), (2,), (2,), (0,), (0,), (0,), (2, 0))
ROW = NotUsable("row", -1)
PLACE = NotUsable("place", -1)


class Made(Exact):
    def test_defined_in_the_class_itself(self):
        self.assertLessEqual({"by", "story", "guilty", "came", "bad", "left", "outside", "__eq__", "__len__", "__iter__"},
                             set(vars(Story)))
        self.assertIsInstance(vars(Story)["by"], classmethod)
        for name in ("story", "guilty", "came"):
            self.assertIsInstance(vars(Story)[name], property)

    def test_properties(self):
        for story in (Story(CASE, GOOD), Story(case=CASE, story=GOOD)):
            self.exactly((story.story, story.guilty, story.came), (GOOD, ("ash",), 2))
            self.exactly((len(story), list(story), [*story], tuple(story)), (6, list(GOOD), list(GOOD), GOOD))
        nothing = Story((BOOK, (), (), 0), ((0,), (0,), (0,), (0,), (0,), (0, 0)))
        self.exactly((nothing.guilty, nothing.came), ((), 0))
        both = Story((BOOK, (), ("ash", "cedar"), 2), ((3,), (0,), (3,), (0,), (3,), (3, 1)))
        self.exactly((both.guilty, both.came), (("ash", "cedar"), 6))
        empty = Story((((("tank", "heap"),), ()), (), (), 0), ())
        self.exactly((len(empty), list(empty), empty.outside(), empty.left("tank", 0), empty.came), (0, [], 0, 0, 0))

    def test_side_by_side(self):
        story = Story(CASE, GOOD)
        self.exactly([(one, other) for one in story for other in story], [(one, other) for one in GOOD for other in GOOD])

    def test_no_story(self):
        for odd in [odd for odd in ODD if odd != ((), (), ())]:
            self.raising(InvalidPaper("shape", -1), Story, CASE, odd)
        for word, at, story in [
                ("shape", -1, list(GOOD)), ("shape", -1, (*GOOD[:5], (True, 0))), ("shape", -1, (*GOOD[:5], [1, 0])),
                ("many", -1, ()), ("many", -1, GOOD[:5]), ("many", -1, (*GOOD, (0,))),
                ("parts", 5, (*GOOD[:5], (1,))), ("part", (0, 0), ((5,), *GOOD[1:])), ("part", (5, 1), (*GOOD[:5], (1, 2))),
                ("rest", (5, 0), (*GOOD[:5], (2, 0))), ("lot", 1, ((2,), (1,), *GOOD[2:])),
                ("finding", 5, ((1,), (0,), (0,), (0,), (0,), (0, 0))), ("few", -1, (*GOOD[:4], (1,), (1, 0)))]:
            self.raising(InvalidPaper(word, at), Story, CASE, story)
            self.raising(InvalidPaper(word, at), Story, case=CASE, story=story)
        book = (BOOK[0], (*BOOK[1], ("back", 5, "tank")))
        self.raising(InvalidPaper("same", (6, 0)), Story, (book, *CASE[1:]), (*GOOD, (0,)))
        self.raising(InvalidPaper("shape", -1), Story, CASE, Story(CASE, GOOD))

    def test_by(self):
        story = Story.by(PURE, ("cedar",))
        self.assertIs(type(story), Story)
        lets_story(PURE, story.story)
        self.exactly(story.guilty, ("cedar",))
        self.exactly(Story.by(case=PURE, lots=("cedar",)) == story, True)
        for lots in ((), ("ash",)):
            self.raising(NoStory(lots), Story.by, PURE, lots)
            self.raising(NoStory(lots), Story.by, case=PURE, lots=lots)
        self.wrong_lots(Story.by)
        # Ahead of NoStory.
        self.raising(NotUsable("lots", 0), Story.by, PURE, ("birch",))
        self.raising(NotUsable("lots", -1), Story.by, PURE, ["ash"])

    def test_by_all_sets_of_lots(self):
        for seed in range(60):
            case = random_case(seed, 7, 3)
            guilty = [guilty_by_model(case[0], story) for story in model_stories(case)]
            for lots in lot_sets(case):
                if any(some <= set(lots) for some in guilty):
                    story = Story.by(case, lots)
                    lets_story(case, story.story)
                    self.assertLessEqual(set(story.guilty), set(lots))
                    self.exactly(story == Story(case, story.story), True)
                else:
                    self.raising(NoStory(lots), Story.by, case, lots)


class BadUnits(Exact):
    def test_the_long_book(self):
        story = Story(LONG_CASE, LONG_STORY)
        self.exactly([story.bad(t) for t in range(14)], [5, 0, 3, 2, 0, 2, 3, 2, 2, 2, 0, 0, 0, 2])
        self.exactly([story.left("line", t) for t in range(15)], [0, 5, 5, 2, 0, 0, 0, 3, 1, 1, 1, 1, 1, 1, 1])
        self.exactly([story.left("tank", t) for t in range(15)], [0, 0, 0, 0, 2, 2, 0, 0, 0, 0, 0, 0, 0, 0, 0])
        self.exactly([story.left("vat", t) for t in range(15)], [0] * 9 + [2, 0, 0, 0, 0, 0])
        self.exactly([story.left("rack", t) for t in range(15)], [0] * 10 + [2, 2, 2, 2, 0])
        # Parcels 2 and 5 came back; 7 was thrown away.
        self.exactly([story.outside(), story.outside(wasted=True), story.outside(wasted=False)], [4, 4, 2])
        self.exactly([story.bad(t=2), story.left(place="line", t=1)], [3, 5])

    def test_all_stories_of_small_books(self):
        for seed in range(60):
            case = random_case(seed, 8, 2)
            book = case[0]
            units = units_of_book(book)
            for told in sorted(model_stories(case))[:25]:
                story = Story(case, told)
                there = {place: 0 for place in units.kinds}
                for t, row in enumerate(book[1]):
                    self.exactly({place: story.left(place, t) for place in there}, there)
                    self.exactly(story.bad(t), sum(told[t]))
                    if row[0] in ("move", "sell", "waste"):
                        there[row[1]] -= sum(told[t])
                    if row[0] in ("come", "move", "back"):
                        there[row[1] if row[0] == "come" else row[2]] += sum(told[t])
                self.exactly({place: story.left(place, 8) for place in there}, there)
                sold = sum(sum(told[t]) for t in sales_by_model(book))
                wasted = sum(sum(told[t]) for t, row in enumerate(book[1]) if row[0] == "waste")
                self.exactly((story.outside(), story.outside(wasted=False)), (sold + wasted, sold))
                came = sum(sum(told[t]) for t, row in enumerate(book[1]) if row[0] == "come")
                # [32]: what came in is outside or in the places.
                self.exactly((story.came, story.came), (came, story.outside() + sum(there.values())))
                self.exactly(story.guilty, tuple(sorted(guilty_by_model(book, told))))

    def test_wrong_values(self):
        story = Story(CASE, GOOD)
        for odd in [*ODD, 6, 7, 10 ** 60, "0", (0,), GOOD, story]:
            self.raising(ROW, story.bad, odd)
            self.raising(ROW, story.bad, t=odd)
        for odd in [*ODD, 7, 10 ** 60, "0", (0,), GOOD, story]:
            self.raising(ROW, story.left, "tank", odd)
            self.raising(ROW, story.left, place="line", t=odd)
        for odd in [*ODD, "vat", "TANK", ("tank",), ["tank"], BOOK[0], 0, story]:
            self.raising(PLACE, story.left, odd, 0)
            # Ahead of the row.
            self.raising(PLACE, story.left, odd, 7)
            self.raising(PLACE, story.left, place=odd, t=None)

    def test_nothing_changes(self):
        story = Story(CASE, GOOD)
        for _ in range(2):
            story.left("tank", 6), story.outside(), list(story), story == story, story.bad(5)
            self.exactly((story.story, story.guilty, story.came, len(story)), (GOOD, ("ash",), 2, 6))
        self.assertIsInstance(story.outside, types.MethodType)


class Equal(Exact):
    def test_equal(self):
        story = Story(CASE, GOOD)
        for case in [CASE, (BOOK, (), ("ash",), 1), (BOOK, (("bad", 2),), ("ash", "birch", "elm"), 3)]:
            self.exactly((story == Story(case, GOOD), story != Story(case, GOOD)), (True, False))

    def test_not_equal(self):
        story = Story(CASE, GOOD)
        self.exactly(story == Story(CASE, ((4,), (0,), (4,), (0,), (0,), (4, 0))), False)
        other = ((BOOK[0], (*BOOK[1][:1], ("come", "tank", "dogwood", 4), *BOOK[1][2:])), *CASE[1:])
        self.exactly(story == Story(other, GOOD), False)
        renamed = (((("line", "pipe"), ("tank", "heap"), ("vat", "heap")), BOOK[1]), *CASE[1:])
        self.exactly((story == Story(renamed, GOOD), story != Story(renamed, GOOD)), (False, True))
        empty = [Story((((place,), ()), (), (), 0), ())
                 for place in (("tank", "heap"), ("tank", "pipe"))]
        self.exactly(empty[0] == empty[1], False)
        for thing in [*ODD, GOOD, list(GOOD), CASE, (CASE, GOOD), BOOK, [story], (story,)]:
            self.exactly((story == thing, thing == story, story != thing), (False, False, True))
