"""[18], [19]: books and cases as objects."""
import types

from lotback.bookobjects import Begun, Book, Case
from lotback.booktexts import book_text, case_text
from lotback.errors import InvalidPaper, InvalidText, NotUsable
from tests.common import BOOK, CASE, LONG, ODD, PLACES, Exact
from tests.model import random_book, random_case, units_of_book

ROW = NotUsable("row", -1)
SHAPE = InvalidPaper("shape", -1)
PLACED = InvalidPaper("places", -1)
TANK = ("tank", "heap")


def listed_in(cls):
    return {name for name, worth in vars(cls).items() if isinstance(worth, (property, classmethod, types.FunctionType))}


class Books(Exact):
    def test_defined_in_the_class_itself(self):
        self.assertLessEqual({"of", "read", "form", "places", "rows", "stocks", "walk"}, listed_in(Book))
        self.assertLessEqual({"whole", "later"}, listed_in(Begun))
        self.assertLessEqual({"of", "read", "findings", "suspects", "few", "book", "blaming"}, listed_in(Case))
        self.assertEqual((Begun.__bases__, Case.__bases__), ((Book,), (Book,)))

    def test_made(self):
        for book in (Book(*(BOOK[0],), *BOOK[1]), Book(BOOK[0][::-1], *BOOK[1]), Book.of(BOOK), Book.of(book=BOOK),
                     Book.read(book_text(BOOK)), Book.read(text=book_text(BOOK))):
            self.assertIs(type(book), Book)
            self.exactly((book.form, book.places, book.rows), (BOOK, BOOK[0], BOOK[1]))
        self.exactly(Book(places=(TANK,)).form, ((TANK,), ()))

    def test_made_of_what_is_none(self):
        for odd in [odd for odd in ODD if odd != ()]:
            self.raising(SHAPE, Book, odd)
            self.raising(SHAPE, Book, (TANK, odd))
            self.raising(SHAPE, Book, BOOK[0], *BOOK[1], odd)
            self.raising(SHAPE, Book.of, odd)
        self.raising(SHAPE, Book, list(BOOK[0]))
        self.raising(SHAPE, Book, BOOK[0], BOOK[1])
        self.raising(PLACED, Book, ())
        self.raising(PLACED, Book, (TANK, TANK))
        self.raising(PLACED, Book, (("tank", "pipe"), TANK), ("sell", "vat", 1))
        self.raising(InvalidPaper("units", 1), Book, (TANK,), ("come", "tank", "ash", 1), ("sell", "tank", 2))
        self.raising(PLACED, Book.of, (BOOK[0][::-1], BOOK[1]))
        self.raising(InvalidPaper("units", 6), Book.of, (BOOK[0], (*BOOK[1], ("sell", "tank", 2))))
        self.raising(SHAPE, Book.of, Book.of(BOOK))

    def test_read_errors(self):
        self.raising(InvalidText(1, 2), Book.read, "place tank heap\nsell tank")
        self.raising(InvalidText(0, 0), Book.read, "")
        self.raising(InvalidText(2, 0), Book.read, "place tank heap\nplace line pipe\nbad 3")
        self.raising(PLACED, Book.read, "place tank heap\nplace line pipe")
        self.raising(InvalidPaper("units", 0), Book.read, "place tank heap\nsell tank 1")

    def test_iterated_indexed_measured(self):
        for book in (Book.of(BOOK), Case.of(CASE), Begun(Book.of(LONG), 6)):
            rows = book.rows
            self.exactly((list(book), len(book), [book[t] for t in range(len(rows))]), (list(rows), len(rows), list(rows)))
            for at in [*ODD, 6, 7, 10 ** 60, slice(0, 2), "0", (0,), book]:
                self.raising(ROW, book.__getitem__, at)
        self.exactly((len(Book((TANK,))), list(Book((TANK,)))), (0, []))
        self.raising(ROW, Book((TANK,)).__getitem__, 0)

    def test_in(self):
        for book in (Book.of(BOOK), Case.of(CASE)):
            for row in BOOK[1]:
                self.exactly(row in book, True)
            for thing in [*ODD, ("sell", "tank", 1), ["sell", "tank", 2], ("bad", 5), BOOK, BOOK[1], book, 0]:
                self.exactly(thing in book, False)
        one = Book((TANK,), ("come", "tank", "ash", 1), ("sell", "tank", 1), ("back", 1, "tank"))
        self.exactly([("come", "tank", "ash", True) in one, ("sell", "tank", True) in one, ("back", True, "tank") in one],
                     [False] * 3)

    def test_added_to(self):
        book = Book(PLACES)
        for t, row in enumerate(LONG[1]):
            more = book + row
            self.exactly((type(more) is Book, more.rows, len(book)), (True, LONG[1][:t + 1], t))
            book = more
        self.exactly(book.form, LONG)

    def test_added_to_what_does_not_fit(self):
        book = Book.of(BOOK)
        for odd in [*ODD, ("bad", 3), ["sell", "tank", 1], book, BOOK]:
            self.raising(SHAPE, book.__add__, odd)
        self.raising(InvalidPaper("units", 6), book.__add__, ("sell", "tank", 2))
        self.raising(InvalidPaper("place", 6), book.__add__, ("sell", "vat", 2))
        self.exactly(book.form, BOOK)

    def test_equal(self):
        book = Book.of(BOOK)
        begun = Begun(book + ("sell", "tank", 1), 6)
        case = Case.of(CASE)
        alike = [book, Book.read(book_text(BOOK)), begun, case.book, Begun(case, 6)]
        for one in alike:
            for other in alike:
                self.exactly((one == other, one != other), (True, False))
            for other in [case, Begun(book, 5), book + ("sell", "tank", 1), BOOK, CASE, *ODD, str(book), list(book)]:
                self.exactly((one == other, other == one, one != other), (False, False, True))

    def test_written(self):
        self.exactly((str(Book.of(BOOK)), str(Begun(Book.of(BOOK), 6)), str(Begun(Case.of(CASE), 6))), (book_text(BOOK),) * 3)
        self.exactly(str(Book.of(LONG)), book_text(LONG))
        self.exactly(Book.read(str(Book.of(LONG))) == Book.of(LONG), True)

    def test_stocks(self):
        self.exactly(list(Book.of(LONG).stocks()), [("line", 1), ("rack", 1), ("tank", 3), ("vat", 1)])
        self.exactly(list(Book(PLACES).stocks()), [("line", 0), ("rack", 0), ("tank", 0), ("vat", 0)])
        self.assertIsInstance(Book.of(LONG).stocks(), types.GeneratorType)

    def test_walk(self):
        self.assertIsInstance(Book.of(LONG).walk(), types.GeneratorType)
        for seed in range(60):
            book = random_book(seed, seed % 16, 5)
            units = units_of_book(book)
            wanted = [(t, row, units.parts[t]) for t, row in enumerate(book[1])]
            self.exactly(list(Book.of(book).walk()), wanted)
            self.exactly(list(Book.of(book).stocks()), [(place, len(units.there[place])) for place, _ in book[0]])
            self.exactly(list(Case(book[0], *book[1]).walk()), wanted)


class Beginnings(Exact):
    def test_made(self):
        whole = Book.of(LONG)
        for t in range(15):
            for begun in (Begun(whole, t), Begun(book=whole, t=t)):
                self.exactly((begun.form, begun.later()), ((PLACES, LONG[1][:t]), LONG[1][t:]))
                self.assertIs(begun.whole, whole)
                self.exactly((len(begun), list(begun), begun.places), (t, list(LONG[1][:t]), PLACES))
        self.exactly(whole.form, LONG)

    def test_of_a_case(self):
        case = Case.of(CASE)
        begun = Begun(case, 2)
        self.assertIs(begun.whole, case)
        self.exactly((begun.form, begun.later(), begun == Book(BOOK[0], *BOOK[1][:2])), ((BOOK[0], BOOK[1][:2]), BOOK[1][2:], True))
        for name in ("findings", "suspects", "few", "book", "blaming"):
            self.assertFalse(hasattr(begun, name))
        # The index goes by rows, of which this case has more than its form has elements.
        self.exactly([len(Begun(case, t)) for t in range(7)], [0, 1, 2, 3, 4, 5, 6])

    def test_of_a_begun(self):
        one = Begun(Book.of(LONG), 5)
        two = Begun(one, 3)
        self.assertIs(two.whole, one)
        self.exactly((two.rows, two.later()), (LONG[1][:3], LONG[1][3:5]))
        self.raising(ROW, Begun, one, 6)

    def test_no_first_rows(self):
        for book in (Book.of(BOOK), Case.of(CASE)):
            for t in [*ODD, 7, 10 ** 60, "0", (0,)]:
                self.raising(ROW, Begun, book, t)
        self.raising(ROW, Begun, Book((TANK,)), 1)
        self.raising(ROW, Begun, Case((TANK,), few=3), 1)

    def test_added_to(self):
        more = Begun(Book.of(BOOK), 2) + ("sell", "tank", 8)
        self.exactly((type(more) is Book, more.rows), (True, (*BOOK[1][:2], ("sell", "tank", 8))))
        self.raising(InvalidPaper("units", 2), Begun(Book.of(BOOK), 2).__add__, ("sell", "tank", 9))


class Cases(Exact):
    def test_made(self):
        for case in (Case(*BOOK[:1], *BOOK[1], findings=CASE[1], suspects=CASE[2], few=1), Case.of(CASE), Case.of(case=CASE),
                     Case(BOOK[0][::-1], *BOOK[1], findings=(("bad", 5), ("bad", 5)), suspects=("cedar", "ash", "cedar"), few=1),
                     Case.read(case_text(CASE)), Case.read(text=case_text(CASE))):
            self.assertIs(type(case), Case)
            self.exactly((case.form, case.findings, case.suspects, case.few), (CASE, *CASE[1:]))
            self.exactly((case.places, case.rows, str(case)), (*BOOK, case_text(CASE)))
            self.assertIs(type(case.book), Book)
            self.exactly(case.book.form, BOOK)
        self.exactly(Case(places=(TANK,)).form, (((TANK,), ()), (), (), 0))

    def test_findings_in_any_order(self):
        found = (("clean", 3), ("bad", 5), ("bad", 2), ("clean", 3), ("clean", 0))
        case = Case(BOOK[0], *BOOK[1], findings=found)
        self.exactly(case.findings, (("bad", 2), ("bad", 5), ("clean", 0), ("clean", 3)))

    def test_made_of_what_is_none(self):
        good = {"findings": CASE[1], "suspects": CASE[2], "few": 1}
        for odd in [odd for odd in ODD if odd not in [(), ("bad",), ("come",)]]:
            for name in good:
                self.raising(SHAPE, Case, BOOK[0], *BOOK[1], **{**good, name: odd})
            self.raising(SHAPE, Case, odd, *BOOK[1], **good)
            self.raising(SHAPE, Case, BOOK[0], *BOOK[1], odd, **good)
            self.raising(SHAPE, Case.of, odd)
        for more in [{"findings": [("bad", 5)]}, {"findings": (("bad", True),)}, {"suspects": ["ash"]}, {"suspects": "ash"},
                     {"suspects": ("ash", "Ash")}, {"few": True}, {"few": -1}]:
            self.raising(SHAPE, Case, BOOK[0], *BOOK[1], **more)
        self.raising(SHAPE, Case.of, BOOK)
        self.raising(SHAPE, Case.of, Case.of(CASE))

    def test_errors_in_their_order(self):
        self.raising(SHAPE, Case, (TANK, TANK), ("sell", "tank", 1), few=True)
        self.raising(SHAPE, Case, (TANK,), ("sell", "tank", 1), findings=None)
        self.raising(PLACED, Case, (TANK, TANK), ("sell", "tank", 1), findings=(("bad", 9),))
        self.raising(InvalidPaper("units", 0), Case, (TANK,), ("sell", "tank", 1), findings=(("bad", 9),))
        self.raising(InvalidPaper("row", 1), Case, BOOK[0], *BOOK[1], findings=(("bad", 6), ("bad", 1)))
        self.raising(InvalidPaper("twice", 1), Case, BOOK[0], *BOOK[1], findings=(("clean", 5), ("bad", 5)))

    def test_of_what_does_not_ascend(self):
        self.raising(PLACED, Case.of, ((BOOK[0][::-1], BOOK[1]), *CASE[1:]))
        self.raising(InvalidPaper("order", 1), Case.of, (BOOK, (("bad", 5), ("bad", 3)), CASE[2], 1))
        self.raising(InvalidPaper("suspects", -1), Case.of, (*CASE[:2], ("cedar", "ash"), 1))

    def test_read_errors(self):
        self.raising(InvalidText(2, 0), Case.read, "place tank heap\nsuspects")
        self.raising(InvalidPaper("suspects", -1), Case.read, "place tank heap\nsuspects b a\nfew 0")
        self.raising(InvalidPaper("row", 0), Case.read, "place tank heap\nbad 0\nsuspects\nfew 0")
        self.raising(InvalidText(0, 0), Case.read, "")

    def test_added_to(self):
        case = Case.of(CASE)
        more = case + ("waste", "tank", 1)
        self.exactly((type(more) is Case, more.form), (True, ((BOOK[0], (*BOOK[1], ("waste", "tank", 1))), *CASE[1:])))
        found = case + ("bad", 3)
        self.exactly((type(found) is Case, found.form), (True, (BOOK, (("bad", 3), ("bad", 5)), *CASE[2:])))
        self.exactly((case + ("bad", 5)).form, CASE)
        self.exactly(case.form, CASE)

    def test_added_to_what_does_not_fit(self):
        case = Case.of(CASE)
        for odd in [*ODD, ["bad", 3], ("bad", True), case, CASE]:
            self.raising(SHAPE, case.__add__, odd)
        self.raising(InvalidPaper("row", 1), case.__add__, ("bad", 6))
        self.raising(InvalidPaper("twice", 1), case.__add__, ("clean", 5))
        self.raising(InvalidPaper("units", 6), case.__add__, ("sell", "tank", 2))
        self.exactly((case.form, str(case)), (CASE, case_text(CASE)))

    def test_blaming(self):
        case = Case.of(CASE)
        self.exactly(case.blaming("zz", "ash", "zz").form, (*CASE[:2], ("ash", "zz"), 1))
        self.exactly(case.blaming().form, (*CASE[:2], (), 1))
        for odd in [*ODD, ("ash",), 3]:
            self.raising(SHAPE, case.blaming, "ash", odd)
        self.exactly(case.form, CASE)

    def test_equal(self):
        case = Case.of(CASE)
        for other in [Case.read(case_text(CASE)), Case(BOOK[0][::-1], *BOOK[1], findings=CASE[1], suspects=("cedar", "ash"), few=1)]:
            self.exactly((case == other, case != other), (True, False))
        for other in [case.book, Book.of(BOOK), CASE, BOOK, case.blaming("ash"), case + ("bad", 3), case + ("waste", "tank", 1),
                      Case(BOOK[0], *BOOK[1], findings=CASE[1], suspects=CASE[2], few=2), Case(*BOOK[:1], *BOOK[1]), *ODD]:
            self.exactly((case == other, other == case, case != other), (False, False, True))
        # A case of nothing but a book differs from this book.
        self.exactly(Case(BOOK[0], *BOOK[1]) == Book.of(BOOK), False)

    def test_random_cases(self):
        for seed in range(60):
            form = random_case(seed, seed % 15)
            case = Case.of(form)
            again = Case(form[0][0][::-1], *form[0][1], findings=form[1][::-1], suspects=form[2][::-1], few=form[3])
            self.exactly((again.form, again == case, Case.read(str(case)) == case), (form, True, True))
            built = Case(form[0][0], suspects=form[2], few=form[3])
            for part in (*form[0][1], *form[1]):
                built = built + part
            self.exactly(built == case, True)
