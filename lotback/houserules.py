"""Which events are possible in a house, and its case behind them."""
from lotback.bookchecker import is_book
from lotback.cases import with_answers
from lotback.explaining import is_explained
from lotback.houseevents import is_event
from lotback.kinds import is_row
from lotback.numberflows import worst_story
from lotback.subsets import telling_sets, without
from lotback.worths import number_in


def case_behind(case, event):
    """The case behind an event that is possible."""
    (places, rows), findings, suspects, few = case
    word = event[0]
    if word == "find":
        return with_answers(case, (event[1:],))
    if word == "suspect":
        return (places, rows), findings, tuple(sorted([*suspects, event[1]])), few
    if word == "clear":
        return (places, rows), findings, without(suspects, event[1:]), few
    if word == "few":
        return (places, rows), findings, suspects, event[1]
    return (places, (*rows, event)), findings, suspects, few


def risk_of_sale(case, row):
    """The greatest number of bad units that a sale has as the next row, which is possible."""
    longer = case_behind(case, row)
    sales = (len(case[0][1]),)
    return number_in(worst_story(longer, sales, telling_sets(longer)), sales)


def reason_against_row(case, row, careful):
    """Why a row is not possible next, or None."""
    places, rows = case[0]
    if not is_book((places, (*rows, row))):
        return "row"
    if careful and row[0] == "sell" and risk_of_sale(case, row) > 0:
        return "bad"
    return None


def reason_against_finding(case, t):
    """Why a finding about row t is not possible, whatever it is; or None."""
    if t >= len(case[0][1]):
        return "row"
    return "there" if any([row == t for _, row in case[1]]) else None


def reason_by_itself(case, event):
    """Why an event that is no row is not possible, whatever the stories; or None."""
    word = event[0]
    if word == "find":
        return reason_against_finding(case, event[2])
    if word == "few":
        return "same" if event[1] == case[3] else None
    if word == "suspect":
        return "there" if event[1] in case[2] else None
    return None if event[1] in case[2] else "missing"


def reason_against(case, event, careful):
    """Why an event by kind is not possible in a house that has room for it; or None."""
    if is_row(event):
        return reason_against_row(case, event, careful)
    reason = reason_by_itself(case, event)
    # With one suspect more no story is lost.
    if reason is None and event[0] != "suspect" and not is_explained(case_behind(case, event)):
        return "story"
    return reason


def reason_ahead(event, events_left, rows_left):
    """Why any value is not possible as an event, whatever the case; or None."""
    if not is_event(event):
        return "shape"
    if events_left <= 0:
        return "full"
    return "long" if is_row(event) and rows_left <= 0 else None
