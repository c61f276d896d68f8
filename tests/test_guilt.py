"""[37], [43], [8] (B4): which lots are guilty in all stories, in some, in none."""
from lotback.bookparts import lots_of
from lotback.errors import NoStory
from lotback.explaining import is_explained, story_by
from lotback.guilt import can_be_bad, cleared, guilty_sets, least_guilty, surely_bad
from tests.common import BOOK, CASE, PURE, SIZES, Exact
from tests.model import LOTS, guilty_by_model, lot_sets, model_stories, random_case

CALLS = (guilty_sets, least_guilty, surely_bad, can_be_bad, cleared)


def tank_book(*lots, sold=1):
    """A book of one heap into which one unit of each lot comes; some are sold."""
    rows = [("come", "tank", lot, 1) for lot in lots]
    return (("tank", "heap"),), (*rows, ("sell", "tank", sold))


class Guilt(Exact):
    def compared(self, case):
        guilty = sorted({tuple(sorted(guilty_by_model(case[0], story))) for story in model_stories(case)})
        least = [some for some in guilty if not any(set(other) < set(some) for other in guilty)]
        self.told(tuple(guilty), guilty_sets, case)
        self.told(tuple(least), least_guilty, case)
        lots = lots_of(case[0])
        if guilty:
            sure = tuple(lot for lot in lots if all(lot in some for some in guilty))
            possible = tuple(lot for lot in lots if any(lot in some for some in guilty))
            self.told(sure, surely_bad, case)
            self.told(possible, can_be_bad, case)
            self.told(tuple(lot for lot in lots if lot not in possible), cleared, case)
            # [64]: what is surely bad can be bad; both are suspects.
            self.assertLessEqual(set(sure), set(possible))
            self.assertLessEqual(set(possible), set(case[2]))
        else:
            for call in (surely_bad, can_be_bad, cleared):
                self.raising(NoStory(case[2]), call, case)
        return guilty, least

    def test_all_stories(self):
        for seed in range(250):
            self.compared(random_case(seed, 1 + seed % 8, 2))

    def test_many_findings_and_suspects(self):
        several = ways = 0
        for seed in range(150):
            case = random_case(seed + 60, 8, 2, findings=7)
            guilty, least = self.compared((*case[:2], tuple(LOTS), 1 + seed % 3))
            several += any(len(some) > 1 for some in least)
            ways += 1 < len(least) < len(guilty)
        self.assertGreater(several, 3)
        self.assertGreater(ways, 0)

    def test_a_set_with_a_guilty_part_need_not_be_guilty(self):
        # One of two units is sold, and clean: both cannot be bad.
        case = (tank_book("ash", "birch"), (("clean", 2),), ("ash", "birch"), 2)
        self.compared(case)
        self.exactly(guilty_sets(case), ((), ("ash",), ("birch",)))
        case = (tank_book("ash", "birch", "cedar", sold=2), (("bad", 3),), ("ash", "birch", "cedar"), 3)
        self.exactly(guilty_sets(case), (("ash",), ("ash", "birch"), ("ash", "birch", "cedar"), ("ash", "cedar"), ("birch",),
                                         ("birch", "cedar"), ("cedar",)))
        self.exactly(least_guilty(case), (("ash",), ("birch",), ("cedar",)))
        self.exactly((surely_bad(case), can_be_bad(case), cleared(case)), ((), ("ash", "birch", "cedar"), ()))

    def test_surely_bad(self):
        case = (tank_book("ash", "birch", sold=2), (("bad", 2),), ("birch", "elm"), 2)
        self.exactly((guilty_sets(case), least_guilty(case)), ((("birch",),), (("birch",),)))
        self.exactly((surely_bad(case), can_be_bad(case), cleared(case)), (("birch",), ("birch",), ("ash",)))
        # A lot that came twice needs a bad unit in one of both.
        rows = (("come", "tank", "ash", 1), ("come", "tank", "ash", 1), ("sell", "tank", 1))
        case = (((("tank", "heap"),), rows), (("bad", 2),), ("ash",), 1)
        self.exactly((guilty_sets(case), surely_bad(case)), ((("ash",),), ("ash",)))

    def test_least_sets_of_several_sizes(self):
        """Birch alone, or ash and cedar together, which come first."""
        self.compared(SIZES)
        self.exactly(least_guilty(SIZES), (("ash", "cedar"), ("birch",)))
        self.exactly(guilty_sets(SIZES), (("ash", "birch"), ("ash", "cedar"), ("birch",), ("birch", "cedar")))

    def test_suspects_that_never_came(self):
        case = (BOOK, (("bad", 5),), ("ash", "dogwood", "elm"), 3)
        self.exactly([call(case) for call in CALLS], [(("ash",),), (("ash",),), ("ash",), ("ash",), ("birch", "cedar")])
        case = (BOOK, (), ("dogwood", "elm"), 3)
        self.exactly([call(case) for call in CALLS], [((),), ((),), (), (), ("ash", "birch", "cedar")])
        case = (BOOK, (("bad", 5),), ("dogwood", "elm"), 3)
        self.exactly((guilty_sets(case), least_guilty(case)), ((), ()))
        for call in CALLS[2:]:
            self.raising(NoStory(("dogwood", "elm")), call, case)

    def test_few_0(self):
        """[43]: with few 0 no lot can be bad."""
        self.exactly([call((BOOK, (), ("ash", "cedar"), 0)) for call in CALLS], [((),), ((),), (), (), ("ash", "birch", "cedar")])
        for call in CALLS[2:]:
            self.raising(NoStory(("ash", "cedar")), call, (*CASE[:3], 0))
        self.exactly((guilty_sets((*CASE[:3], 0)), least_guilty((*CASE[:3], 0))), ((), ()))

    def test_no_rows(self):
        case = (((("tank", "heap"),), ()), (), ("ash",), 1)
        self.exactly([call(case) for call in CALLS], [((),), ((),), (), (), ()])

    def test_the_example(self):
        told = [(("ash",), ("cedar",)), (("ash",), ("cedar",)), (), ("ash", "cedar"), ("birch",)]
        for call, wanted in zip(CALLS, told):
            self.told(wanted, call, CASE)
            self.told(wanted, call, case=CASE)
        self.exactly([call(PURE) for call in CALLS], [(("cedar",),), (("cedar",),), ("cedar",), ("cedar",), ("ash", "birch")])

    def test_surely_bad_if_no_story_by_others(self):
        """[43], also for larger books."""
        sure = 0
        for seed in range(60):
            case = random_case(seed + 20, 16, 20, findings=5)
            case = (*case[:2], tuple(LOTS), 1 + seed % 3)
            if is_explained(case):
                for lot in LOTS:
                    others = (*case[:2], tuple(other for other in LOTS if other != lot), case[3])
                    self.exactly(lot in surely_bad(case), not is_explained(others))
                    sure += lot in surely_bad(case)
                self.larger(case)
        self.assertGreater(sure, 5)

    def larger(self, case):
        sets = lot_sets(case)
        by = [lots for lots in sets if story_by(case, lots) is not None]
        least = sorted(lots for lots in by if not any(set(other) < set(lots) for other in by))
        self.exactly(least_guilty(case), tuple(least))
        guilty = guilty_sets(case)
        self.exactly([lots for lots in guilty if lots not in by], [])
        self.assertLessEqual(set(least), set(guilty))
        self.exactly(cleared(case), tuple(lot for lot in lots_of(case[0]) if lot not in can_be_bad(case)))

    def test_beyond_the_limits(self):
        lots = tuple("lot" + letter for letter in "abcdefghijklm")
        rows = [("come", "tank" if k % 2 else "tin", lot, 10 ** 59) for k, lot in enumerate(lots)]
        book = ((("tank", "heap"), ("tin", "heap")), (*rows, ("sell", "tank", 3), ("sell", "tin", 10 ** 58)))
        case = (book, (("bad", 13), ("bad", 14)), lots, 2)
        least = least_guilty(case)
        self.exactly(least, tuple(sorted(tuple(sorted((one, other))) for one in lots[::2] for other in lots[1::2])))
        self.exactly((guilty_sets(case), surely_bad(case), can_be_bad(case), cleared(case)), (least, (), lots, ()))
