"""[3], [12]: the checker of books."""
from lotback.bookchecker import is_book, lets_book
from lotback.bookobjects import Book
from lotback.errors import InvalidPaper
from tests.common import BOOK, LONG, ODD, PLACES, ROWS, Exact
from tests.model import random_book, units_of_book

TANK = (("tank", "heap"),)
BOTH = (("line", "pipe"), ("tank", "heap"))
COME = ("come", "tank", "ash", 4)


class Checker(Exact):
    def accepted(self, units, book):
        self.told(units, lets_book, book)
        self.told(units, lets_book, thing=book)
        self.told(True, is_book, book)
        self.told(True, is_book, thing=book)

    def refused(self, word, at, thing):
        self.raising(InvalidPaper(word, at), lets_book, thing)
        self.raising(InvalidPaper(word, at), lets_book, thing=thing)
        self.exactly(is_book(thing), False)

    def row_refused(self, word, *rows, places=BOTH):
        """The last row is the wrong one; rows behind it do not matter."""
        self.refused(word, len(rows) - 1, (places, rows))
        self.refused(word, len(rows) - 1, (places, (*rows, ("sell", "nowhere", 1))))

    def test_accepted(self):
        self.accepted(4 + 4 - 2 + 3 - 6, BOOK)
        self.accepted(1 + 1 + 3 + 1, LONG)
        self.accepted(0, (TANK, ()))
        self.accepted(0, (TANK, (COME, ("sell", "tank", 4))))
        self.accepted(4, (TANK, (COME, ("sell", "tank", 4), ("back", 1, "tank"))))
        big = 10 ** 59
        self.accepted(big, (TANK, (("come", "tank", "ash", big), ("come", "tank", "ash", big), ("waste", "tank", big))))

    def test_a_sale_may_come_back_again_as_another(self):
        rows = (COME, ("sell", "tank", 4), ("back", 1, "line"), ("sell", "line", 4), ("back", 3, "tank"))
        self.accepted(4, (BOTH, rows))

    def test_many_rows(self):
        rows = tuple([("come", "line", "ash", 7), ("sell", "line", 5), ("move", "line", "tank", 2)] * 60)
        self.accepted(120, (BOTH, rows))

    def test_random_books(self):
        for seed in range(150):
            book = random_book(seed, seed % 25, 5)
            units = sum(len(there) for there in units_of_book(book).there.values())
            self.accepted(units, book)

    def test_shape(self):
        for thing in [*ODD, (), (TANK,), (TANK, (), ()), [TANK, ()], (list(TANK), ()), (TANK, []), (TANK, [COME]),
                      (TANK, (["come", "tank", "ash", 4],)), (TANK, (("come", "tank", "ash", True),)),
                      (TANK, (COME, None)), ((("tank", "vat"),), ()), (TANK, COME), ("tank", ()), (TANK, "rows"),
                      Book.of(BOOK), (Book.of(BOOK), ())]:
            self.refused("shape", -1, thing)
        for odd in ODD:
            self.refused("shape", -1, (TANK, (COME, odd)))
            self.refused("shape", -1, ((*TANK, odd), (COME,)))

    def test_shape_ahead_of_places_and_rows(self):
        self.refused("shape", -1, ((), (None,)))
        self.refused("shape", -1, ((BOTH[1], BOTH[0]), (COME, ("sell", "nowhere", 0))))

    def test_places(self):
        self.refused("places", -1, ((), ()))
        self.refused("places", -1, (BOTH[::-1], ()))
        self.refused("places", -1, (TANK * 2, ()))
        self.refused("places", -1, ((("tank", "heap"), ("tank", "pipe")), ()))
        self.refused("places", -1, ((BOTH[0], BOTH[1], ("tin", "heap"), ("tap", "pipe")), ()))

    def test_places_ahead_of_rows(self):
        self.refused("places", -1, ((), (COME,)))
        self.refused("places", -1, (BOTH[::-1], (("sell", "tank", 1),)))

    def test_place(self):
        for row in [("come", "vat", "ash", 1), ("move", "vat", "tank", 1), ("move", "tank", "vat", 1),
                    ("sell", "vat", 1), ("waste", "vat", 1), ("come", "heap", "ash", 1)]:
            self.row_refused("place", COME, row)
        self.row_refused("place", COME, ("sell", "tank", 1), ("back", 1, "vat"))

    def test_place_ahead_of_the_others(self):
        self.row_refused("place", COME, ("move", "vat", "vat", 99))
        self.row_refused("place", COME, ("move", "tank", "vat", 99))
        self.row_refused("place", COME, ("back", 0, "vat"))

    def test_same(self):
        self.row_refused("same", COME, ("move", "tank", "tank", 1))
        self.row_refused("same", COME, ("move", "tank", "tank", 5))
        self.row_refused("same", ("move", "line", "line", 1))

    def test_sale(self):
        sold = (COME, ("sell", "tank", 2), ("waste", "tank", 1))
        for s in (0, 2, 3, 4, 10 ** 60):
            self.row_refused("sale", *sold, ("back", s, "tank"))
        self.row_refused("sale", *sold, ("back", 1, "tank"), ("back", 1, "line"))
        self.row_refused("sale", ("back", 0, "tank"))

    def test_a_sale_behind_the_row_is_none(self):
        self.refused("sale", 1, (TANK, (COME, ("back", 2, "tank"), ("sell", "tank", 1))))

    def test_units(self):
        for word in ("sell", "waste"):
            self.row_refused("units", COME, (word, "tank", 5))
            self.row_refused("units", COME, (word, "line", 1))
            self.row_refused("units", ("come", "line", "ash", 4), COME, (word, "line", 5))
        self.row_refused("units", COME, ("move", "tank", "line", 5))
        self.row_refused("units", COME, ("sell", "tank", 4), ("sell", "tank", 1))
        self.row_refused("units", *ROWS, ("sell", "line", 3))
        self.row_refused("units", ("come", "tank", "ash", 10 ** 59), ("sell", "tank", 10 ** 59 + 1))

    def test_the_first_row_first(self):
        self.refused("units", 1, (TANK, (COME, ("sell", "tank", 5), ("sell", "vat", 1))))
        self.refused("place", 1, (TANK, (COME, ("sell", "vat", 1), ("sell", "tank", 5))))

    def test_one_unit_too_many(self):
        units = units_of_book(LONG)
        for place, _ in PLACES:
            many = len(units.there[place])
            if many:
                self.accepted(6 - many, (PLACES, (*LONG[1], ("sell", place, many))))
            self.refused("units", len(LONG[1]), (PLACES, (*LONG[1], ("sell", place, many + 1))))
