"""Cases made of a case."""
from lotback.casechecker import lets_case
from lotback.sorting import set_of_findings, set_of_names


def checked(case):
    """The case itself, if it is one."""
    lets_case(case)
    return case


def case_with_row(case, row):
    """The case with one row more, any value."""
    (places, rows), findings, suspects, few = case
    return checked(((places, (*rows, row)), findings, suspects, few))


def with_finding(case, finding):
    """The case with one finding more, any value; one that it has changes nothing."""
    book, findings, suspects, few = case
    return checked((book, set_of_findings((*findings, finding)), suspects, few))


def with_suspects(case, suspects):
    """The case with other suspects, in any order, also repeated."""
    book, findings, _, few = case
    return checked((book, findings, set_of_names(suspects), few))


def with_few(case, few):
    """The case with another few."""
    book, findings, suspects, _ = case
    return checked((book, findings, suspects, few))


def with_findings_alone(case, findings):
    """The case with these of its findings alone."""
    book, _, suspects, few = case
    return book, findings, suspects, few


def with_answers(case, answers):
    """The case with more findings, about rows about which it has none."""
    book, findings, suspects, few = case
    return book, set_of_findings((*findings, *answers)), suspects, few
