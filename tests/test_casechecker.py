"""[5], [12]: the checker of cases."""
from lotback.bookobjects import Case
from lotback.casechecker import is_case, lets_case
from lotback.errors import InvalidPaper
from tests.common import BOOK, CASE, LONG, ODD, Exact

ASH = ("ash",)


class Checker(Exact):
    def accepted(self, many, case):
        self.told(many, lets_case, case)
        self.told(many, lets_case, thing=case)
        self.told(True, is_case, case)
        self.told(True, is_case, thing=case)

    def refused(self, word, at, thing):
        self.raising(InvalidPaper(word, at), lets_case, thing)
        self.raising(InvalidPaper(word, at), lets_case, thing=thing)
        self.exactly(is_case(thing), False)

    def test_accepted(self):
        self.accepted(1, CASE)
        self.accepted(0, (BOOK, (), (), 0))
        self.accepted(2, (BOOK, (("bad", 5), ("clean", 2)), ("ash", "nowhere"), 10 ** 60))
        bad = [("bad", t) for t in range(1, 14, 2)]
        self.accepted(14, (LONG, (*bad, *[("clean", t) for t in range(0, 14, 2)]), ASH, 1))
        self.accepted(0, (((("tank", "heap"),), ()), (), ("zz",), 1))

    def test_shape(self):
        for thing in [*ODD, BOOK, (BOOK, (), ()), (BOOK, (), (), 0, 0), [BOOK, (), (), 0], (BOOK, [], (), 0),
                      (BOOK, (), [], 0), (BOOK, (), (), True), (BOOK, (), (), -1), (BOOK, (), (), None),
                      (BOOK, (("bad", True),), (), 0), (BOOK, (["bad", 1],), (), 0), (BOOK, ("bad", 1), (), 0),
                      (BOOK, (), ("Ash",), 0), (BOOK, (), (1,), 0), (BOOK, (), "ash", 0), (BOOK, (), ("",), 0),
                      Case.of(CASE)]:
            self.refused("shape", -1, thing)
        for odd in ODD:
            self.refused("shape", -1, (BOOK, (odd,), (), 0))
            self.refused("shape", -1, (BOOK, (), (odd,), 0))
            self.refused("shape", -1, (BOOK, (), (), odd))
            self.refused("shape", -1, (odd, (), (), 0))

    def test_shape_ahead_of_all_else(self):
        for book in (None, (BOOK[0], (("sell", "vat", 1),)), (BOOK[0][::-1], ())):
            self.refused("shape", -1, (book, (("bad", 99),), ("b", "a"), -1))
        self.refused("shape", -1, (BOOK, (("bad", 99),), ("Ash",), 1))

    def test_errors_of_the_book(self):
        self.refused("shape", -1, ((BOOK[0],), (), (), 0))
        self.refused("places", -1, ((BOOK[0][::-1], BOOK[1]), (), (), 0))
        self.refused("places", -1, (((), ()), (("bad", 99),), ("b", "a"), 0))
        self.refused("units", 6, ((BOOK[0], (*BOOK[1], ("sell", "tank", 2))), (("bad", 99),), ("b", "a"), 0))
        self.refused("place", 0, ((BOOK[0], (("sell", "vat", 1),)), (), (), 0))
        self.refused("same", 0, ((BOOK[0], (("move", "tank", "tank", 1),)), (), (), 0))
        self.refused("sale", 0, ((BOOK[0], (("back", 0, "tank"),)), (), (), 0))

    def test_row(self):
        self.refused("row", 0, (BOOK, (("bad", 6),), ASH, 1))
        self.refused("row", 1, (BOOK, (("bad", 5), ("clean", 10 ** 60)), ASH, 1))
        self.refused("row", 0, (((("tank", "heap"),), ()), (("bad", 0),), (), 0))

    def test_row_ahead_of_order_and_twice(self):
        self.refused("row", 1, (BOOK, (("clean", 0), ("bad", 6)), ASH, 1))
        self.refused("row", 0, (BOOK, (("bad", 6), ("bad", 6)), ASH, 1))

    def test_order(self):
        self.refused("order", 1, (BOOK, (("bad", 5), ("bad", 4)), ASH, 1))
        self.refused("order", 1, (BOOK, (("clean", 0), ("bad", 4)), ASH, 1))
        self.refused("order", 2, (BOOK, (("bad", 1), ("clean", 3), ("clean", 2)), ASH, 1))

    def test_order_ahead_of_twice(self):
        self.refused("order", 1, (BOOK, (("bad", 5), ("bad", 5)), ASH, 1))
        self.refused("order", 1, (BOOK, (("clean", 5), ("bad", 5)), ASH, 1))

    def test_twice(self):
        self.refused("twice", 1, (BOOK, (("bad", 5), ("clean", 5)), ASH, 1))
        self.refused("twice", 3, (BOOK, (("bad", 1), ("bad", 3), ("clean", 2), ("clean", 3)), ASH, 1))

    def test_all_checks_of_one_finding_ahead_of_the_next(self):
        self.refused("order", 1, (BOOK, (("bad", 5), ("bad", 4), ("bad", 6)), ASH, 1))
        self.refused("twice", 1, (BOOK, (("bad", 5), ("clean", 5), ("clean", 4)), ASH, 1))

    def test_suspects(self):
        self.refused("suspects", -1, (BOOK, (), ("cedar", "ash"), 1))
        self.refused("suspects", -1, (BOOK, (), ("ash", "ash"), 1))
        self.refused("suspects", -1, (BOOK, (), ("a", "c", "b"), 1))

    def test_findings_ahead_of_suspects(self):
        self.refused("twice", 1, (BOOK, (("bad", 5), ("clean", 5)), ("cedar", "ash"), 1))
