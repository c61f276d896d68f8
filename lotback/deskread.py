"""What a string tells a desk to do."""
from lotback.bookreadings import words_read
from lotback.errors import InvalidText
from lotback.houseread import read_event, read_house

# What stands behind the first word of a string that is neither an event nor the line of a House.
QUESTION_FORMS = {
    "undo": (), "count": (), "log": (), "table": (), "findings": (),
    "rows": (), "few": (), "suspects": (), "sure": (), "possible": (), "outside": (),
    "units": ("name",), "risk": ("name", "number"), "back": ("number",),
}


def question_form(words):
    """The kinds of what stands behind the first of these words; None if it begins no question."""
    if words[0] == "numbers":
        # One number for each word, one at least.
        return ("number",) * max(1, len(words) - 1)
    return QUESTION_FORMS.get(words[0], None)


def read_question(row):
    """The tuple that a string writes that asks something; None if it is none such."""
    words = row.split(" ")
    form = question_form(words)
    if form is None:
        return None
    try:
        return words_read(words, form, 0, 0)
    except InvalidText:
        return None


def read_house_or_event(row):
    """The event that a string writes, or ("house", places, careful); None if it is none such."""
    try:
        if row.startswith("house "):
            return read_house(row, 0)
        return read_event(row)
    except InvalidText:
        return None


def read_command(row):
    """The tuple that any string writes, None if a desk does not know it."""
    question = read_question(row)
    return read_house_or_event(row) if question is None else question
