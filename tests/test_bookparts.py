"""[4], [7], [13] to [15]: what a book tells, and books made of it."""
from lotback.bookchecker import is_book
from lotback.bookparts import (beginning, came, given_to, lots_of, parts_of, queue_in, rest_of, sales_outside,
                               taken_from, units_in, units_of, with_row)
from lotback.errors import InvalidPaper, NotUsable, UnknownLot
from tests.common import BOOK, LONG, ODD, PLACES, Exact
from tests.model import random_book, units_of_book

ROW = NotUsable("row", -1)
PLACE = NotUsable("place", -1)
EMPTY = (BOOK[0], ())
TANK = (("tank", "heap"),)


class Parts(Exact):
    def test_rows_of_all_kinds(self):
        self.exactly([parts_of(LONG, t) for t in range(14)], [
            ((None, 5),), ((None, 4),), ((0, 3),), ((0, 2), (1, 2)), ((None, 6),), ((None, 7),), ((2, 3),),
            ((1, 2), (6, 2)), ((5, 7),), ((None, 7),), ((9, 2),), ((9, 1),), ((None, 2),), ((9, 4), (12, 1))])
        self.exactly([units_of(LONG, t) for t in range(14)], [5, 4, 3, 4, 6, 7, 3, 4, 7, 7, 2, 1, 2, 5])
        self.exactly([taken_from(LONG, t) for t in range(14)], [
            None, None, "line", "line", None, "tank", None, "line", None, "vat", "rack", "rack", None, "rack"])
        self.exactly([given_to(LONG, t) for t in range(14)], [
            "line", "line", None, "tank", "tank", None, "line", None, "vat", "rack", None, "vat", "rack", None])

    def test_units_queues_and_rests(self):
        self.exactly([units_in(LONG, "line", t) for t in range(15)], [0, 5, 9, 6, 2, 2, 2, 5, 1, 1, 1, 1, 1, 1, 1])
        self.exactly([units_in(LONG, "vat", t) for t in range(8, 15)], [0, 7, 0, 0, 1, 1, 1])
        self.exactly([queue_in(LONG, "line", t) for t in range(9)], [
            (), ((0, 5),), ((0, 5), (1, 4)), ((0, 2), (1, 4)), ((1, 2),), ((1, 2),), ((1, 2),), ((1, 2), (6, 3)),
            ((6, 1),)])
        self.exactly([queue_in(LONG, "rack", t) for t in (9, 10, 11, 13, 14)], [
            (), ((9, 7),), ((9, 5),), ((9, 4), (12, 2)), ((12, 1),)])
        self.exactly([queue_in(LONG, place, 7) for place in ("tank", "vat")], [(), ()])
        self.exactly([rest_of(LONG, 1, t) for t in range(9)], [0, 0, 4, 4, 2, 2, 2, 2, 0])
        self.exactly([rest_of(LONG, s, 14) for s in range(14)], [0, 0, 0, 0, 0, 0, 1, 0, 0, 0, 0, 0, 1, 0])

    def test_rest_where_it_is_no_pipe(self):
        for s in (2, 3, 4, 5, 7, 8, 10, 11, 13):
            for t in range(15):
                self.exactly(rest_of(LONG, s, t), 0)

    def test_lots(self):
        self.exactly(lots_of(LONG), ("ash", "birch", "cedar"))
        self.exactly([came(LONG, lot) for lot in lots_of(LONG)], [7, 4, 6])
        self.exactly(lots_of(EMPTY), ())

    def test_a_lot_with_the_name_of_a_place(self):
        book = (BOOK[0], (("come", "tank", "line", 3), ("move", "tank", "line", 2), ("sell", "line", 1), ("back", 2, "line")))
        self.exactly((lots_of(book), came(book, "line")), (("line",), 3))
        self.raising(UnknownLot("tank"), came, book, "tank")

    def test_sales_outside(self):
        self.exactly(sales_outside(LONG), (10, 13))
        self.exactly(sales_outside(BOOK), (3, 5))
        self.exactly(sales_outside(EMPTY), ())

    def test_random_books(self):
        for seed in range(120):
            book = random_book(seed, seed % 22, 6)
            units = units_of_book(book)
            many = len(book[1])
            for t in range(many):
                self.told(units.parts[t], parts_of, book, t)
                self.told(units.many[t], units_of, book, t)
            for t in range(many + 1):
                self.behind(book, units, t)
            back = [row[1] for row in book[1] if row[0] == "back"]
            self.told(tuple(t for t in range(many) if book[1][t][0] == "sell" and t not in back), sales_outside, book)

    def behind(self, book, units, t):
        """What is told of places behind the first t rows."""
        for place, kind in book[0]:
            there = units.states[t][place]
            self.told(len(there), units_in, book, place, t)
            queue = tuple((s, there.count(s)) for s in sorted(set(there))) if kind == "pipe" else ()
            self.told(queue, queue_in, book, place, t)
        for s in range(len(book[1])):
            place = given_to(book, s)
            self.told(units.states[t][place].count(s) if place else 0, rest_of, book, s, t)

    def test_big_numbers(self):
        big = 10 ** 59
        book = ((("line", "pipe"),), (("come", "line", "ash", big), ("come", "line", "ash", big),
                                      ("sell", "line", big + 1), ("back", 2, "line")))
        self.exactly(parts_of(book, 2), ((0, big), (1, 1)))
        self.exactly(queue_in(book, "line", 4), ((1, big - 1), (3, big + 1)))
        self.exactly(came(book, "ash"), 2 * big)

    def test_by_name(self):
        self.told(((2, 5), (4, 1)), parts_of, book=BOOK, t=5)
        self.told(6, units_of, book=BOOK, t=5)
        self.told("line", taken_from, book=BOOK, t=5)
        self.told(None, given_to, book=BOOK, t=5)
        self.told(3, units_in, book=BOOK, place="tank", t=3)
        self.told(((2, 5), (4, 3)), queue_in, book=BOOK, place="line", t=5)
        self.told(2, rest_of, book=BOOK, s=4, t=6)
        self.told((3, 5), sales_outside, book=BOOK)
        self.told(("ash", "birch", "cedar"), lots_of, book=BOOK)
        self.told(4, came, book=BOOK, lot="birch")
        self.told((BOOK[0], BOOK[1][:2]), beginning, book=BOOK, t=2)
        self.told((BOOK[0], (*BOOK[1], ("sell", "tank", 1))), with_row, book=BOOK, row=("sell", "tank", 1))

    def test_no_row(self):
        for t in [*ODD, 6, 7, 10 ** 60, "0", (0,), BOOK]:
            for told in (parts_of, units_of, taken_from, given_to):
                self.raising(ROW, told, BOOK, t)
            self.raising(ROW, rest_of, BOOK, t, 0)
        for told in (parts_of, units_of, taken_from, given_to):
            self.raising(ROW, told, EMPTY, 0)

    def test_no_first_rows(self):
        for t in [*ODD, 7, 10 ** 60, "0", (0,), BOOK]:
            self.raising(ROW, units_in, BOOK, "tank", t)
            self.raising(ROW, queue_in, BOOK, "line", t)
            self.raising(ROW, rest_of, BOOK, 0, t)
            self.raising(ROW, beginning, BOOK, t)
        self.exactly([units_in(BOOK, "tank", 6), queue_in(BOOK, "line", 6), rest_of(BOOK, 4, 6), beginning(BOOK, 6)],
                     [1, ((4, 2),), 2, BOOK])

    def test_no_place_ahead_of_no_row(self):
        for place in [*ODD, "vat", "heap", ("tank", "heap"), ["tank"], BOOK]:
            for t in (0, 7, None, True):
                self.raising(PLACE, units_in, BOOK, place, t)
                self.raising(PLACE, queue_in, BOOK, place, t)

    def test_unknown_lot(self):
        for lot in [*ODD, "elm", "tank", ("ash",), ["ash"]]:
            with self.assertRaises(UnknownLot) as caught:
                came(BOOK, lot)
            self.assertIs(type(caught.exception), UnknownLot)
            self.assertIs(caught.exception.lot, lot)

    def test_beginnings(self):
        for t in range(15):
            self.told((PLACES, LONG[1][:t]), beginning, LONG, t)
            self.exactly(is_book(beginning(LONG, t)), True)

    def test_with_row(self):
        book = (PLACES, ())
        for row in LONG[1]:
            book = with_row(book, row)
        self.exactly(book, LONG)

    def test_with_row_refused(self):
        for row in [*ODD, ("sell", "tank", True), ["sell", "tank", 1], ("bad", 5), BOOK]:
            self.raising(InvalidPaper("shape", -1), with_row, BOOK, row)
        self.raising(InvalidPaper("place", 6), with_row, BOOK, ("sell", "vat", 9))
        self.raising(InvalidPaper("same", 6), with_row, BOOK, ("move", "tank", "tank", 9))
        self.raising(InvalidPaper("sale", 6), with_row, BOOK, ("back", 6, "tank"))
        self.raising(InvalidPaper("sale", 14), with_row, LONG, ("back", 2, "tank"))
        self.raising(InvalidPaper("units", 6), with_row, BOOK, ("sell", "tank", 2))
        self.raising(InvalidPaper("units", 0), with_row, EMPTY, ("sell", "tank", 1))

    def test_sums(self):
        """The numbers of the parts add up to the units, the rests of a queue to those in the pipe."""
        for seed in range(40):
            book = random_book(seed, 18, 20)
            for t in range(18):
                self.exactly(sum(m for _, m in parts_of(book, t)), units_of(book, t))
            for place, kind in book[0]:
                if kind == "pipe":
                    self.exactly(sum(rest for _, rest in queue_in(book, place, 18)), units_in(book, place, 18))
