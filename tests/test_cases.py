"""[15]: cases made of a case."""
from lotback.cases import case_with_row, with_few, with_finding, with_suspects
from lotback.errors import InvalidPaper
from tests.common import BOOK, CASE, ODD, Exact

SHAPE = InvalidPaper("shape", -1)
NAMES = [("bad",), ("come",)]


class Changes(Exact):
    def test_case_with_row(self):
        row = ("waste", "tank", 1)
        wanted = ((BOOK[0], (*BOOK[1], row)), *CASE[1:])
        self.told(wanted, case_with_row, CASE, row)
        self.told(wanted, case_with_row, case=CASE, row=row)

    def test_case_with_row_refused(self):
        for row in [*ODD, ("bad", 3), ["waste", "tank", 1]]:
            self.raising(SHAPE, case_with_row, CASE, row)
        self.raising(InvalidPaper("place", 6), case_with_row, CASE, ("move", "vat", "vat", 1))
        self.raising(InvalidPaper("same", 6), case_with_row, CASE, ("move", "tank", "tank", 5))
        self.raising(InvalidPaper("sale", 6), case_with_row, CASE, ("back", 2, "tank"))
        self.raising(InvalidPaper("units", 6), case_with_row, CASE, ("waste", "tank", 2))

    def test_with_finding(self):
        self.told((BOOK, (("bad", 3), ("bad", 5)), *CASE[2:]), with_finding, CASE, ("bad", 3))
        self.told((BOOK, (("bad", 5), ("clean", 0)), *CASE[2:]), with_finding, case=CASE, finding=("clean", 0))
        case = CASE
        for finding in [("clean", 4), ("bad", 1), ("clean", 2), ("bad", 3), ("bad", 0)]:
            case = with_finding(case, finding)
        self.exactly(case[1], (("bad", 0), ("bad", 1), ("bad", 3), ("bad", 5), ("clean", 2), ("clean", 4)))

    def test_a_finding_that_it_has(self):
        self.told(CASE, with_finding, CASE, ("bad", 5))

    def test_with_finding_refused(self):
        for finding in [*ODD, ("bad", True), ["bad", 5], ("sell", "tank", 1), (("bad", 5),)]:
            self.raising(SHAPE, with_finding, CASE, finding)
        one = (BOOK, (("bad", 1),), (), 0)
        self.raising(SHAPE, with_finding, one, ("bad", True))
        self.raising(InvalidPaper("row", 1), with_finding, CASE, ("bad", 6))
        self.raising(InvalidPaper("row", 1), with_finding, CASE, ("clean", 99))
        self.raising(InvalidPaper("twice", 1), with_finding, CASE, ("clean", 5))
        self.raising(InvalidPaper("twice", 1), with_finding, (BOOK, (("clean", 5),), (), 0), ("bad", 5))
        more = (BOOK, (("bad", 5), ("clean", 2), ("clean", 3)), (), 0)
        self.raising(InvalidPaper("twice", 3), with_finding, more, ("bad", 3))

    def test_with_suspects(self):
        self.told((BOOK, CASE[1], ("ash", "birch", "zz"), 1), with_suspects, CASE, ("zz", "ash", "birch", "ash"))
        self.told((BOOK, CASE[1], (), 1), with_suspects, case=CASE, suspects=())

    def test_with_suspects_refused(self):
        for suspects in [*[odd for odd in ODD if odd not in NAMES], ["ash"], "ash", ("ash", 1), ("ash", "Ash"), ("ash", ""),
                         (("ash",),), None]:
            self.raising(SHAPE, with_suspects, CASE, suspects)

    def test_with_few(self):
        for few in (0, 1, 2, 10 ** 60):
            self.told((*CASE[:3], few), with_few, CASE, few)
        self.told((*CASE[:3], 3), with_few, case=CASE, few=3)

    def test_with_few_refused(self):
        for few in [*ODD, "1", (1,)]:
            self.raising(SHAPE, with_few, CASE, few)
