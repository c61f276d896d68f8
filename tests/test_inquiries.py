"""[46], [54]: inquiries, gone along for all answers."""
import copy

from lotback.cases import with_finding
from lotback.errors import NoStory, NotUsable
from lotback.explaining import is_explained
from lotback.inquiries import Inquiry
from lotback.looks import fewest_looks, settled_as
from tests.common import BARRED, CASE, ODD, PURE, Exact
from tests.model import LOTS, answered, fewest_by_model, model_stories, random_case, sales_by_model, settled_by_model
from tests.test_looks import some_parcels

THIRDS = (((("tank", "heap"),), (("come", "tank", "ash", 10), *[("sell", "tank", 3)] * 3)), (), ("ash",), 1)


def with_answers(case, answers):
    for finding in answers:
        case = with_finding(case, finding)
    return case


class Inquiries(Exact):
    def confirmed(self, inquiry, case, sales, parcels, answers):
        """All that the inquiry tells behind these answers."""
        present = with_answers(case, answers)
        left = tuple(t for t in parcels if t not in [row for _, row in answers])
        self.exactly(inquiry.present, present)
        self.exactly((len(inquiry), list(inquiry), tuple(inquiry)), (len(answers), list(answers), tuple(answers)))
        needed = fewest_looks(present, sales, left)
        self.exactly(inquiry.needed(), needed)
        self.exactly(inquiry.outcome(), settled_as(present, sales))
        t = inquiry.next_look()
        self.exactly(t, inquiry.next_look())
        self.exactly(t is None, inquiry.outcome() is not None)
        if t is None:
            self.exactly(needed, 0)
        else:
            self.assertIn(t, left)
        return t, left, needed

    def go_along(self, inquiry, case, sales, parcels, answers=()):
        """Both answers to each look, each told and taken back."""
        t, left, needed = self.confirmed(inquiry, case, sales, parcels, answers)
        if t is None:
            for word in ("bad", "clean", None, t):
                self.raising(NotUsable("word", -1), inquiry.tell, word)
            return
        others = tuple(parcel for parcel in left if parcel != t)
        behind = []
        for word in ("bad", "clean"):
            self.exactly(inquiry.tell(word), None)
            present = with_answers(case, (*answers, (word, t)))
            # Some story has each of the two answers.
            self.exactly(is_explained(present), True)
            behind.append(fewest_looks(present, sales, others))
            self.go_along(inquiry, case, sales, parcels, (*answers, (word, t)))
            self.exactly(inquiry.back(), True)
            self.exactly(self.confirmed(inquiry, case, sales, parcels, answers)[0], t)
        # The first look of a plan with the fewest looks.
        self.exactly(max(behind) + 1, needed)

    def test_all_answers(self):
        needed = set()
        for seed in range(50):
            case = random_case(seed, 4 + seed % 6, 2, findings=1)
            case = (*case[:2], tuple(LOTS[:4]), 1 + seed % 2)
            sales = sales_by_model(case[0])[:3]
            if is_explained(case):
                for parcels in some_parcels(case, seed):
                    kept = copy.deepcopy((case, sales, parcels))
                    if fewest_looks(case, sales, parcels) is None:
                        self.raising(NotUsable("looks", -1), Inquiry, case, sales, parcels)
                    else:
                        inquiry = Inquiry(case, sales, parcels)
                        needed.add(inquiry.needed())
                        self.go_along(inquiry, case, sales, parcels)
                        self.exactly(inquiry.back(), False)
                        self.exactly((len(inquiry), inquiry.present), (0, case))
                    self.exactly((case, sales, parcels), kept)
        self.assertLessEqual({0, 1, 2, 3}, needed)

    def test_by_the_model(self):
        for seed in range(30):
            case = random_case(seed + 60, 7, 2, findings=1)
            case = (*case[:2], tuple(LOTS[:3]), 2)
            sales = sales_by_model(case[0])
            stories = model_stories(case)
            parcels = tuple(t for t in sales if t not in [row for _, row in case[1]])[:4]
            if stories and fewest_by_model(stories, sales, parcels) is not None:
                inquiry = Inquiry(case=case, sales=sales, parcels=parcels)
                left = parcels
                while inquiry.next_look() is not None:
                    self.exactly(inquiry.needed(), fewest_by_model(stories, sales, left))
                    t = inquiry.next_look()
                    word = "clean" if seed % 2 else "bad"
                    inquiry.tell(word=word)
                    stories = answered(stories, word, t)
                    left = tuple(parcel for parcel in left if parcel != t)
                self.exactly(inquiry.outcome(), settled_by_model(stories, sales))

    def test_larger_books(self):
        for seed in range(6):
            case = random_case(seed + 140, 16, 20, findings=6)
            case = (*case[:2], tuple(LOTS), 3)
            sales = sales_by_model(case[0])[:6]
            parcels = tuple(t for t in sales if t not in [row for _, row in case[1]])[:4]
            if is_explained(case) and fewest_looks(case, sales, parcels) is not None:
                self.go_along(Inquiry(case, sales, parcels), case, sales, parcels)

    def test_the_example(self):
        inquiry = Inquiry(CASE, (3,), (2, 3))
        got = [inquiry.next_look(), inquiry.needed(), inquiry.tell("clean"), inquiry.outcome(), list(inquiry), inquiry.back(), inquiry.outcome()]
        self.exactly(got, [3, 1, None, "clean", [("clean", 3)], True, None])
        self.go_along(Inquiry(CASE, (3,), (0, 1, 2, 3, 4)), CASE, (3,), (0, 1, 2, 3, 4))
        self.go_along(Inquiry(CASE, (5,), ()), CASE, (5,), ())
        self.go_along(Inquiry(CASE, (), (2, 3)), CASE, (), (2, 3))
        self.go_along(Inquiry(THIRDS, (1, 2, 3), (0, 1, 2, 3)), THIRDS, (1, 2, 3), (0, 1, 2, 3))

    def test_answers_in_the_order_in_which_they_came(self):
        inquiry = Inquiry(THIRDS, (1, 2, 3), (1, 2, 3))
        told = []
        while inquiry.next_look() is not None:
            told.append(("clean", inquiry.next_look()))
            inquiry.tell("clean")
        self.exactly(list(inquiry), told)
        self.exactly(inquiry.present[1], tuple(sorted(told)))
        self.exactly((inquiry.outcome(), inquiry.needed(), len(inquiry)), ("clean", 0, 3))
        self.exactly([inquiry.back() for _ in range(5)], [True] * 3 + [False] * 2)
        self.exactly((inquiry.present, list(inquiry), inquiry.needed()), (THIRDS, [], 3))

    def test_words_of_any_kind(self):
        inquiry = Inquiry(THIRDS, (1, 2, 3), (1, 2, 3))
        inquiry.tell("clean")
        t, course = inquiry.next_look(), list(inquiry)
        for word in [*ODD, "Bad", "look", ("bad",), ["bad"], 1, inquiry]:
            self.raising(NotUsable("word", -1), inquiry.tell, word)
            self.exactly((inquiry.next_look(), list(inquiry), inquiry.present[1]), (t, course, tuple(course)))
        self.raising(NotUsable("word", -1), inquiry.tell, word="worse")

    def test_two_at_once(self):
        """Each inquiry has its own answers."""
        one, other = Inquiry(THIRDS, (1, 2, 3), (1, 2, 3)), Inquiry(THIRDS, (1, 2, 3), (1, 2, 3))
        one.tell("bad")
        self.exactly((one.outcome(), other.outcome(), len(other), other.present), ("bad", None, 0, THIRDS))

    def test_errors(self):
        self.raising(NotUsable("looks", -1), Inquiry, CASE, (3,), (2,))
        self.raising(NotUsable("looks", -1), Inquiry, case=CASE, sales=(3,), parcels=())
        case = (*PURE[:2], ("ash", "elm"), 1)
        # NoStory ahead of no plan; wrong parameters ahead of both.
        self.raising(NoStory(("ash", "elm")), Inquiry, case, (3,), ())
        self.raising(NoStory(()), Inquiry, BARRED, (3,), ())
        self.raising(NotUsable("parcels", 0), Inquiry, case, (3,), (5,))
        self.raising(NotUsable("sales", 0), Inquiry, case, (2,), (5,))
        self.raising(NotUsable("parcels", -1), Inquiry, CASE, (3,), None)
        self.wrong_sales(Inquiry, ())
        self.wrong_parcels(Inquiry)
