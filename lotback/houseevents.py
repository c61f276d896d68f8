"""What happens in a house: rows, findings, suspects, few."""
from lotback.kinds import begins_with_word, matches, row_form

# What stands behind the first word of an event that is no row.
EVENT_FORMS = {
    "find": ("word", "number"),
    "suspect": ("name",),
    "clear": ("name",),
    "few": ("number",),
}


def event_form(word):
    """The kinds of what stands behind this word, a string, in an event; None if it begins no event."""
    form = row_form(word)
    return EVENT_FORMS.get(word, None) if form is None else form


def is_event(thing):
    """Whether any value is an event by kind."""
    return begins_with_word(thing) and matches(event_form(thing[0]), thing)
