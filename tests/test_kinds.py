"""[2], [3], [11]: kinds by form."""
from lotback.bookobjects import Book, Case
from lotback.kinds import is_finding, is_name, is_number, is_place, is_row
from tests.common import BOOK, CASE, LONG, ODD, Exact, ROWS

TELLERS = [is_finding, is_name, is_number, is_place, is_row]


class Kinds(Exact):
    def all_told(self, teller, good, bad):
        for thing in good:
            self.told(True, teller, thing)
            self.told(True, teller, thing=thing)
        for thing in [*bad, *ODD]:
            self.told(False, teller, thing)

    def test_numbers(self):
        self.all_told(is_number, [0, 1, 10 ** 60 - 1, 10 ** 80], [-1, "1", (1,), -10 ** 60])

    def test_names(self):
        bad = ["ashashash", "Ash", "aSh", "ash1", "a-b", "a ", " a", "", "a\n", "`", "{", b"ash", ("ash",), 3]
        self.all_told(is_name, ["a", "z", "az", "ashashas", "come", "few"], bad)

    def test_places(self):
        bad = [("tank", "heap", 1), ("tank",), ["tank", "heap"], ("Tank", "heap"), ("tank", "Heap"), ("tank", ""),
               ("tank", None), ("heap", "tank"), "tank", (1, "heap"), ("tank", ["heap"]), ("tank", ("heap",))]
        self.all_told(is_place, [("tank", "heap"), ("tank", "pipe"), ("heap", "pipe")], bad)

    def test_rows(self):
        good = [*ROWS, *LONG[1], ("back", 0, "tank"), ("come", "come", "come", 10 ** 60 - 1),
                ("move", "tank", "tank", 1), ("waste", "nowhere", 99), ("back", 10 ** 59, "tank")]
        bad = [("come", "tank", "ash", 0), ("come", "tank", "ash", True), ("come", "tank", "ash", -1),
               ("come", "tank", "ash"), ("come", "tank", "ash", 1, 1), ("come", "tank", 1, "ash"),
               ("come", "Tank", "ash", 1), ("come", "tank", "", 1), ["come", "tank", "ash", 1],
               ("move", "tank", "line", 0), ("move", "tank", None, 1), ("move", "tank", 1), ("sell", "tank", 0),
               ("sell", "tank", True), ("sell", "tank"), ("sell", "tank", "1"), ("waste", "tank", 0),
               ("waste", 1, "tank"), ("back", -1, "tank"), ("back", True, "tank"), ("back", "tank", 1),
               ("back", 0), ("back", 0, "TANK"), ("back", 0, "tank", 1), (), "come", ("Come", "tank", "ash", 1),
               (["come"], "tank", "ash", 1), (1, 2, 3), ("find", "bad", 1)]
        self.all_told(is_row, good, bad)

    def test_findings(self):
        bad = [("bad", True), ("bad", -1), ("bad", "1"), ("bad",), ("bad", 1, 1), ["bad", 1], ("good", 1),
               (1, "bad"), ("bad", (1,)), ("bad", None), (["bad"], 1), "bad 1"]
        self.all_told(is_finding, [("bad", 0), ("clean", 0), ("bad", 10 ** 60 - 1)], bad)

    def test_objects_are_none(self):
        for teller in TELLERS:
            for thing in [Book.of(BOOK), Case.of(CASE), (Book.of(BOOK), "heap"), ("come", "tank", Book.of(BOOK), 1)]:
                self.exactly(teller(thing), False)
