"""The checker of cases."""
from lotback.bookchecker import ascend, lets_book
from lotback.errors import InvalidPaper
from lotback.kinds import are_findings, are_names, is_number


def has_case_form(thing):
    """Whether any value is a tuple of any value, findings and names by form, and a number."""
    if not isinstance(thing, tuple) or len(thing) != 4:
        return False
    return are_findings(thing[1]) and are_names(thing[2]) and is_number(thing[3])


def check_finding(findings, k, many):
    """Raise InvalidPaper if finding k does not fit those before it, in a book of so many rows."""
    t = findings[k][1]
    if t >= many:
        raise InvalidPaper("row", k)
    if k > 0 and findings[k] <= findings[k - 1]:
        raise InvalidPaper("order", k)
    if any([row == t for _, row in findings[:k]]):
        raise InvalidPaper("twice", k)


def lets_case(thing):
    """How many findings there are, if any value is a case."""
    if not has_case_form(thing):
        raise InvalidPaper("shape", -1)
    book, findings, suspects, _ = thing
    lets_book(book)
    for k in range(len(findings)):
        check_finding(findings, k, len(book[1]))
    if not ascend(suspects):
        raise InvalidPaper("suspects", -1)
    return len(findings)


def is_case(thing):
    """Whether any value is a case."""
    try:
        lets_case(thing)
    except InvalidPaper:
        return False
    return True
