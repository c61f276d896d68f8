"""Written forms of rows, findings, books and cases.

These hold for all values by form, whether or not they make a book or a case.
"""


def words_text(words):
    """Words and numbers with single spaces between."""
    return " ".join([str(word) for word in words])


def row_text(row):
    """The line of a row."""
    return words_text(row)


def finding_text(finding):
    """The line of a finding."""
    return words_text(finding)


def book_lines(book):
    """The lines of a book: its places, then its rows."""
    places, rows = book
    first = [words_text(("place", *place)) for place in places]
    behind = [row_text(row) for row in rows]
    return [*first, *behind]


def book_text(book):
    """The lines of a book, with newlines between."""
    return "\n".join(book_lines(book))


def case_text(case):
    """The lines of a case: its book, its findings, its suspects, its few."""
    book, findings, suspects, few = case
    first = book_lines(book)
    behind = [finding_text(finding) for finding in findings]
    return "\n".join([*first, *behind, words_text(("suspects", *suspects)), words_text(("few", few))])
