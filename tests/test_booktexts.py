"""[16]: written forms."""
from lotback.booktexts import book_text, case_text, finding_text, row_text
from tests.common import BOOK, CASE, LONG, Exact

CASE_LINES = """place line pipe
place tank heap
come tank ash 4
come tank birch 4
move tank line 5
sell tank 2
come line cedar 3
sell line 6
bad 5
suspects ash cedar
few 1"""


class Texts(Exact):
    def test_rows(self):
        for row, text in [(("come", "tank", "ash", 4), "come tank ash 4"), (("sell", "come", 10 ** 59), f"sell come {10 ** 59}"),
                          (("move", "tank", "line", 5), "move tank line 5"), (("waste", "few", 1), "waste few 1"),
                          (("back", 0, "tank"), "back 0 tank")]:
            self.told(text, row_text, row)
            self.told(text, row_text, row=row)

    def test_findings(self):
        self.told("bad 0", finding_text, ("bad", 0))
        self.told(f"clean {10 ** 59}", finding_text, finding=("clean", 10 ** 59))

    def test_books(self):
        self.told("\n".join(CASE_LINES.split("\n")[:8]), book_text, BOOK)
        self.told("place line pipe\nplace tank heap", book_text, book=(BOOK[0], ()))
        self.exactly(book_text(LONG).split("\n")[4:][:9], [
            "come line ash 5", "come line birch 4", "sell line 3", "move line tank 4", "come tank cedar 6",
            "sell tank 7", "back 2 line", "waste line 4", "back 5 vat"])

    def test_cases(self):
        self.told(CASE_LINES, case_text, CASE)
        self.told("place tank heap\nsuspects\nfew 0", case_text, case=(((("tank", "heap"),), ()), (), (), 0))

    def test_what_is_no_book_is_written_by_form(self):
        book = ((("tank", "heap"), ("line", "pipe")), (("sell", "vat", 9),))
        self.told("place tank heap\nplace line pipe\nsell vat 9", book_text, book)
        case = (book, (("clean", 9), ("bad", 9)), ("b", "a"), 7)
        self.told("place tank heap\nplace line pipe\nsell vat 9\nclean 9\nbad 9\nsuspects b a\nfew 7", case_text, case)
