"""[17]: the readers."""
from lotback.bookreadings import book_read, case_read, finding_read, row_read
from lotback.booktexts import book_text, case_text, finding_text, row_text
from lotback.errors import InvalidText
from tests.common import BOOK, CASE, LONG, Exact
from tests.model import random_case

SIXTY = "9" * 60
ROWS = [("come", "tank", "ash", 4), ("come", "come", "few", int(SIXTY)), ("move", "back", "sell", 1),
        ("move", "tank", "tank", 9), ("sell", "place", 2), ("waste", "bad", 3), ("back", 0, "tank"),
        ("back", int(SIXTY), "back")]


class OneLine(Exact):
    def wrong(self, reader, text, field):
        """An error at this word, to which line and field are added."""
        self.raising(InvalidText(0, field), reader, text)
        self.raising(InvalidText(0, field), reader, text=text)
        self.raising(InvalidText(7, field), reader, text, line=7)
        self.raising(InvalidText(0, field + 3), reader, text, field=3)
        self.raising(InvalidText(2, field + 1), reader, text, line=2, field=1)

    def test_rows(self):
        for row in [*ROWS, *LONG[1]]:
            self.told(row, row_read, row_text(row))
            self.told(row, row_read, text=row_text(row), line=3, field=4)

    def test_findings(self):
        for finding in [("bad", 0), ("clean", 12), ("bad", int(SIXTY))]:
            self.told(finding, finding_read, finding_text(finding))
            self.told(finding, finding_read, text=finding_text(finding), line=3, field=4)

    def test_first_words(self):
        for text in ["", " ", "Come tank ash 4", "comes tank ash 4", " come tank ash 4", "bad 4", "place tank heap",
                     "few 4", "suspects", "4", "\n", "come\n", "come\ntank ash 4", "find bad 5"]:
            self.wrong(row_read, text, 0)
        for text in ["", " ", "good 4", " bad 4", "sell tank 4", "few 4", "\nbad 4", "bad\n4", "Bad 4", "4"]:
            self.wrong(finding_read, text, 0)

    def test_empty_words(self):
        for text, field in [("come ", 1), ("come  tank ash 4", 1), ("come tank  ash 4", 2), ("come tank ash  4", 3),
                            ("come tank ash 4 ", 4), ("come tank ash ", 3), ("back  4 tank", 1), ("sell tank 4 ", 3)]:
            self.wrong(row_read, text, field)
        for text, field in [("bad ", 1), ("bad  4", 1), ("bad 4 ", 2)]:
            self.wrong(finding_read, text, field)

    def test_words_too_many(self):
        for row in ROWS:
            for more in [" 4", " tank", "  ", " 4 5 6"]:
                self.wrong(row_read, row_text(row) + more, len(row))
        self.wrong(finding_read, "bad 4 5", 2)
        self.wrong(finding_read, "clean 4 clean 4", 2)

    def test_words_missing(self):
        for row in ROWS:
            words = row_text(row).split(" ")
            for k in range(1, len(words)):
                self.wrong(row_read, " ".join(words[:k]), k)
        self.wrong(finding_read, "bad", 1)
        self.wrong(finding_read, "clean", 1)

    def test_a_wrong_word_ahead_of_one_missing_or_too_many(self):
        self.wrong(row_read, "come tank 4", 2)
        self.wrong(row_read, "come Tank", 1)
        self.wrong(row_read, "come tank ash 0 9 9", 3)
        self.wrong(row_read, "come Tank Ash 0", 1)
        self.wrong(finding_read, "bad 01 2", 1)

    def test_numbers(self):
        for word in ["0", "00", "04", "-4", "+4", "4.", "4a", "a", "4\n", "1" + SIXTY, "0x4", "1_0", "4,", "ash"]:
            self.wrong(row_read, f"come tank ash {word}", 3)
            self.wrong(row_read, f"move tank line {word}", 3)
            self.wrong(row_read, f"sell tank {word}", 2)
            self.wrong(row_read, f"waste tank {word}", 2)
        for word in ["00", "04", "-4", "-0", "+0", "4a", "a", "4\n", "1" + SIXTY, "1_0"]:
            self.wrong(row_read, f"back {word} tank", 1)
            self.wrong(finding_read, f"bad {word}", 1)
            self.wrong(finding_read, f"clean {word}", 1)
        self.exactly(row_read(f"sell tank {SIXTY}"), ("sell", "tank", int(SIXTY)))
        self.exactly(finding_read(f"bad {SIXTY}"), ("bad", int(SIXTY)))

    def test_names(self):
        for word in ["Ash", "ashashash", "a1", "1", "a-b", "a\n", "\na", "a,b"]:
            self.wrong(row_read, f"come {word} ash 4", 1)
            self.wrong(row_read, f"come tank {word} 4", 2)
            self.wrong(row_read, f"move tank {word} 4", 2)
            self.wrong(row_read, f"sell {word} 4", 1)
            self.wrong(row_read, f"back 4 {word}", 2)

    def test_a_newline_is_part_of_a_word(self):
        self.wrong(row_read, "sell tank 3\n", 2)
        self.wrong(row_read, "sell tank 3\nsell tank 3", 2)
        self.wrong(finding_read, "bad 3\n", 1)


class ManyLines(Exact):
    def wrong(self, reader, text, line, field):
        self.raising(InvalidText(line, field), reader, text)
        self.raising(InvalidText(line, field), reader, text=text)

    def test_books(self):
        for book in (BOOK, LONG, (LONG[0], ())):
            self.told(book, book_read, book_text(book))
            self.told(book, book_read, text=book_text(book))

    def test_cases(self):
        for case in (CASE, (LONG, (("bad", 2), ("clean", 0)), (), 0)):
            self.told(case, case_read, case_text(case))
            self.told(case, case_read, text=case_text(case))

    def test_read_and_write(self):
        for seed in range(80):
            case = random_case(seed, seed % 20, 9)
            self.exactly(case_read(case_text(case)), case)
            self.exactly(book_read(book_text(case[0])), case[0])
            self.exactly(case_text(case_read(case_text(case))), case_text(case))

    def test_by_form_alone(self):
        text = "place tank heap\nplace line pipe\nplace line heap\nsell vat 9\nback 7 tank\nclean 9\nbad 9\nbad 9\n" \
               "suspects b a b\nfew 0"
        case = (((("tank", "heap"), ("line", "pipe"), ("line", "heap")), (("sell", "vat", 9), ("back", 7, "tank"))),
                (("clean", 9), ("bad", 9), ("bad", 9)), ("b", "a", "b"), 0)
        self.told(case, case_read, text)
        self.exactly(case_text(case), text)
        self.told(case[0], book_read, text[:text.index("\nclean")])

    def test_names_that_are_words_of_the_forms(self):
        text = "place few heap\nplace place pipe\nplace suspects heap\ncome few bad 1\nsell place 2\nbad 0\n" \
               "suspects clean few place suspects\nfew 1"
        self.exactly(case_text(case_read(text)), text)
        self.exactly(case_read(text)[0][0], (("few", "heap"), ("place", "pipe"), ("suspects", "heap")))

    def test_the_first_line_is_a_place(self):
        for reader in (book_read, case_read):
            for text in ["", " ", "\n", "come tank ash 4", "bad 4", "suspects", "few 0", "Place tank heap", "\nplace a heap",
                         " place tank heap", "pipe", "sell tank"]:
                self.wrong(reader, text, 0, 0)

    def test_lines_of_places(self):
        for reader in (book_read, case_read):
            for text, field in [("place", 1), ("place ", 1), ("place tank", 2), ("place tank ", 2), ("place Tank heap", 1),
                                ("place tank Heap", 2), ("place tank vat", 2), ("place tank heap ", 3),
                                ("place tank heap pipe", 3), ("place  heap", 1), ("place 1 2 3", 1)]:
                self.wrong(reader, text, 0, field)
                self.wrong(reader, "place tank heap\n" + text + "\nelse", 1, field)

    def test_order_of_lines_in_a_book(self):
        self.wrong(book_read, "place a heap\nsell a 1\nplace b heap", 2, 0)
        self.wrong(book_read, "place a heap\nsell a 1\nplace Wrong", 2, 0)
        for line in ["bad 0", "suspects", "few 0", "", " ", "else", "heap"]:
            self.wrong(book_read, "place a heap\n" + line, 1, 0)
            self.wrong(book_read, "place a heap\nsell a 1\n" + line, 2, 0)

    def test_order_of_lines_in_a_case(self):
        kinds = {"place": "place a heap", "row": "sell a 1", "finding": "bad 0", "suspects": "suspects a", "few": "few 2",
                 "none": "else", "empty": ""}
        after = {"place": ["place", "row", "finding", "suspects"], "row": ["row", "finding", "suspects"],
                 "finding": ["finding", "suspects"], "suspects": ["few"], "few": []}
        whole = ["place", "row", "finding", "suspects", "few"]
        for kind, possible in after.items():
            lines = [kinds[name] for name in whole[:whole.index(kind) + 1]]
            for other, line in kinds.items():
                if other not in possible:
                    self.wrong(case_read, "\n".join([*lines, line]), len(lines), 0)
                    self.wrong(case_read, "\n".join([*lines, line, "else", "else"]), len(lines), 0)

    def test_lines_that_may_be_left_out(self):
        place = ("a", "heap")
        self.exactly(case_read("place a heap\nsuspects\nfew 0"), (((place,), ()), (), (), 0))
        self.exactly(case_read("place a heap\nbad 0\nsuspects\nfew 0"), (((place,), ()), (("bad", 0),), (), 0))
        self.exactly(case_read("place a heap\nsell a 1\nsuspects\nfew 0"), (((place,), (("sell", "a", 1),)), (), (), 0))

    def test_a_text_that_ends_too_early(self):
        lines = case_text(CASE).split("\n")
        for k in range(1, len(lines)):
            self.wrong(case_read, "\n".join(lines[:k]), k, 0)

    def test_a_newline_at_the_end(self):
        self.wrong(case_read, case_text(CASE) + "\n", 11, 0)
        self.wrong(book_read, book_text(BOOK) + "\n", 8, 0)

    def test_errors_within_lines(self):
        for line, field in [("sell a", 2), ("sell a 0", 2), ("sell a 1 1", 3), ("sell  1", 1), ("back a a", 1), ("come a a a", 3)]:
            for reader in (book_read, case_read):
                self.wrong(reader, "place a heap\nsell a 1\n" + line + "\nelse", 2, field)
        for line, field in [("bad", 1), ("bad x", 1), ("clean 01", 1), ("bad 0 0", 2), ("bad 0 ", 2)]:
            self.wrong(case_read, "place a heap\n" + line + "\nelse", 1, field)

    def test_suspects(self):
        for line, field in [("suspects ", 1), ("suspects  a", 1), ("suspects a ", 2), ("suspects a B c", 2), ("suspects 1", 1),
                            ("suspects a ashashash", 2)]:
            self.wrong(case_read, "place a heap\n" + line + "\nfew 0", 1, field)

    def test_few(self):
        for line, field in [("few", 1), ("few ", 1), ("few 00", 1), ("few 01", 1), ("few -1", 1), ("few 1 1", 2), ("few 1 ", 2),
                            ("few a", 1), ("few 1" + SIXTY, 1)]:
            self.wrong(case_read, "place a heap\nsuspects\n" + line, 2, field)
        self.exactly(case_read("place a heap\nsuspects\nfew " + SIXTY)[3], int(SIXTY))

    def test_the_first_line_first(self):
        self.wrong(case_read, "place a heap\nsell a\nplace b heap", 1, 2)
        self.wrong(book_read, "place a heap\nsell a 1\nplace b\nsell", 2, 0)
