"""What a desk answers, by its House and by what a string tells it to do."""
from lotback.booktexts import finding_text, words_text
from lotback.houseevents import is_event
from lotback.houselines import event_line, slashed


def spaced(things):
    """Several things with single spaces between; - for none."""
    return words_text(things) if len(things) > 0 else "-"


def lots_word(lots):
    """A set of lots as one word; - for none."""
    return ",".join(lots) if len(lots) > 0 else "-"


def event_answer(house, event):
    """Let an event happen."""
    told = house.go(event)
    if isinstance(told, tuple):
        sure, possible = told
        return f"{lots_word(sure)} {lots_word(possible)}"
    return str(told)


def undo_answer(house, _):
    """Take the last event back."""
    return event_line(house.undo())


def count_answer(house, _):
    """How many events there are."""
    return str(len(house.log()) - 1)


def log_answer(house, _):
    """The lines of the events."""
    return str(house)


def table_answer(house, _):
    """The table of the parcels."""
    return slashed(house.table())


def findings_answer(house, _):
    """The lines of the findings."""
    return slashed([finding_text(finding) for finding in house.case[1]])


def rows_answer(house, _):
    """How many rows there are."""
    return str(len(house))


def few_answer(house, _):
    """How many lots hold bad units at most."""
    return str(house.case[3])


def suspects_answer(house, _):
    """The suspects."""
    return spaced(house.case[2])


def sure_answer(house, _):
    """The lots that are surely bad."""
    return spaced(house.sure())


def possible_answer(house, _):
    """The lots that can be bad."""
    return spaced(house.possible())


def outside_answer(house, _):
    """The sales outside."""
    return spaced(house.outside())


def units_answer(house, told):
    """How many units are in a place."""
    return str(house.units(told[0]))


def risk_answer(house, told):
    """How many bad units a sale could have."""
    return str(house.risk(told[0], told[1]))


def back_answer(house, told):
    """How many units have to be called back."""
    return str(house.fewest_back(told[0]))


def numbers_answer(house, told):
    """How many bad units these sales can have."""
    return spaced(house.numbers(told))


ANSWERS = {
    "undo": undo_answer, "count": count_answer, "log": log_answer, "table": table_answer, "findings": findings_answer,
    "rows": rows_answer, "few": few_answer, "suspects": suspects_answer, "sure": sure_answer,
    "possible": possible_answer, "outside": outside_answer, "units": units_answer, "risk": risk_answer,
    "back": back_answer, "numbers": numbers_answer,
}


def answer_of(house, command):
    """The answer to an event, or to a question and what stands behind its word."""
    if is_event(command):
        return event_answer(house, command)
    action = ANSWERS[command[0]]
    return action(house, command[1:])
