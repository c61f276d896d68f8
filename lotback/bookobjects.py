"""Books and cases as objects that never change."""
from lotback.bookchecker import lets_book
from lotback.bookparts import check_row_count, check_row_index
from lotback.bookreadings import book_read, case_read
from lotback.booktexts import book_text, case_text
from lotback.casechecker import lets_case
from lotback.contents import amount, contents_after, contents_behind, no_contents, parts_taken
from lotback.kinds import is_finding, is_row
from lotback.sorting import set_of_findings, set_of_names, sorted_places


class Book:
    """A book."""

    def __init__(self, places, *rows):
        ordered = sorted_places(places)
        lets_book((ordered, rows))
        self._places = ordered
        self._rows = rows

    @classmethod
    def of(cls, book):
        """The Book of any value, if it is a book."""
        lets_book(book)
        places, rows = book
        return Book(places, *rows)

    @classmethod
    def read(cls, text):
        """The Book that any string writes."""
        return Book.of(book_read(text))

    @property
    def form(self):
        """The book."""
        return self._places, self._rows

    @property
    def places(self):
        """The places of the book."""
        return self._places

    @property
    def rows(self):
        """The rows of the book."""
        return self._rows

    def stocks(self):
        """Yield the pairs (place, units in it behind all rows)."""
        contents = contents_behind((self._places, self._rows), len(self._rows))
        for place, _ in self._places:
            yield place, amount(contents[place])

    def walk(self):
        """Yield the triples (t, row, parts)."""
        contents = no_contents(self._places)
        for t, row in enumerate(self._rows):
            yield t, row, parts_taken(contents, self._rows, t)
            contents = contents_after(contents, self._rows, t)

    def __iter__(self):
        return iter(self._rows)

    def __getitem__(self, at):
        check_row_index((self._places, self._rows), at)
        return self._rows[at]

    def __len__(self):
        return len(self._rows)

    def __contains__(self, x):
        return is_row(x) and x in self._rows

    def __add__(self, other):
        return Book(self._places, *self._rows, other)

    def __eq__(self, other):
        return isinstance(other, Book) and self.form == other.form

    def __str__(self):
        return str(book_text(self.form))


class Begun(Book):
    """The Book of the first t rows of a Book."""

    def __init__(self, book, t):
        places = book.places
        # Not by form: that of a Case is none of a book.
        check_row_count((places, book.rows), t)
        rows = book.rows[:t]
        super().__init__(places, *rows)
        self._whole = book
        self._later = book.rows[t:]

    @property
    def whole(self):
        """The Book of which this is the beginning."""
        return self._whole

    def later(self):
        """The other rows of the whole Book."""
        return self._later


class Case(Book):
    """A case: a book with findings, suspects and few."""

    def __init__(self, places, *rows, findings=(), suspects=(), few=0):
        ordered = sorted_places(places)
        found = set_of_findings(findings)
        blamed = set_of_names(suspects)
        # Ahead of the base class: an error of the case's form precedes those of its book.
        lets_case(((ordered, rows), found, blamed, few))
        super().__init__(ordered, *rows)
        self._findings = found
        self._suspects = blamed
        self._few = few
        self._book = Book(ordered, *rows)

    @classmethod
    def of(cls, case):
        """The Case of any value, if it is a case."""
        lets_case(case)
        (places, rows), findings, suspects, few = case
        return Case(places, *rows, findings=findings, suspects=suspects, few=few)

    @classmethod
    def read(cls, text):
        """The Case that any string writes."""
        return Case.of(case_read(text))

    @property
    def form(self):
        """The case."""
        return (self._places, self._rows), self._findings, self._suspects, self._few

    @property
    def findings(self):
        """The findings of the case."""
        return self._findings

    @property
    def suspects(self):
        """The suspects of the case."""
        return self._suspects

    @property
    def few(self):
        """How many lots hold bad units at most."""
        return self._few

    @property
    def book(self):
        """The Book of the case."""
        return self._book

    def blaming(self, *suspects):
        """The Case with these suspects, in any order, also repeated."""
        return Case(self._places, *self._rows, findings=self._findings, suspects=suspects, few=self._few)

    def __add__(self, other):
        findings = self._findings
        if is_finding(other):
            findings = (*findings, other)
            return Case(self._places, *self._rows, findings=findings, suspects=self._suspects, few=self._few)
        return Case(self._places, *self._rows, other, findings=findings, suspects=self._suspects, few=self._few)

    def __str__(self):
        return str(case_text(self.form))
