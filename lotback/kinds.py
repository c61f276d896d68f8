"""Kinds of values, told by form alone."""

# What stands behind the first word of a row.
ROW_FORMS = {
    "come": ("name", "name", "units"),
    "move": ("name", "name", "units"),
    "sell": ("name", "units"),
    "waste": ("name", "units"),
    "back": ("number", "name"),
}


def row_form(word):
    """The kinds of what stands behind this word, a string, in a row; None if it begins no row."""
    return ROW_FORMS.get(word, None)


def is_whole(thing):
    """Whether any value is an integer: True and False are none."""
    return isinstance(thing, int) and not isinstance(thing, bool)


def is_number(thing):
    """Whether any value is an integer that is at least 0."""
    return is_whole(thing) and thing >= 0


def is_index(thing, many):
    """Whether any value is the index of one of so many things."""
    return is_number(thing) and thing < many


def is_name(thing):
    """Whether any value is a name of a place or of a lot."""
    if not isinstance(thing, str) or not 1 <= len(thing) <= 8:
        return False
    return all(["a" <= letter <= "z" for letter in thing])


def is_kind(thing):
    """Whether any value is a kind of places."""
    return isinstance(thing, str) and thing in ("heap", "pipe")


def is_place(thing):
    """Whether any value is a place by form."""
    if not isinstance(thing, tuple) or len(thing) != 2:
        return False
    return is_name(thing[0]) and is_kind(thing[1])


def is_finding_word(thing):
    """Whether any value is the word of a finding."""
    return isinstance(thing, str) and thing in ("bad", "clean")


def fits(kind, thing):
    """Whether any value can stand in a row or an event where this kind is asked."""
    if kind == "name":
        return is_name(thing)
    if kind == "word":
        return is_finding_word(thing)
    if kind == "units":
        return is_number(thing) and thing > 0
    return is_number(thing)


def begins_with_word(thing):
    """Whether any value is a tuple that begins with a string."""
    return isinstance(thing, tuple) and len(thing) > 0 and isinstance(thing[0], str)


def matches(form, thing):
    """Whether a tuple has behind its first element what this form asks; None is no form."""
    if form is None or len(thing) != len(form) + 1:
        return False
    return all([fits(kind, part) for kind, part in zip(form, thing[1:])])


def is_row(thing):
    """Whether any value is a row by form."""
    return begins_with_word(thing) and matches(row_form(thing[0]), thing)


def is_finding(thing):
    """Whether any value is a finding by form."""
    if not isinstance(thing, tuple) or len(thing) != 2:
        return False
    return is_finding_word(thing[0]) and is_number(thing[1])


def are_places(thing):
    """Whether any value is a tuple of places by form."""
    return isinstance(thing, tuple) and all([is_place(part) for part in thing])


def are_rows(thing):
    """Whether any value is a tuple of rows by form."""
    return isinstance(thing, tuple) and all([is_row(part) for part in thing])


def are_findings(thing):
    """Whether any value is a tuple of findings by form."""
    return isinstance(thing, tuple) and all([is_finding(part) for part in thing])


def are_names(thing):
    """Whether any value is a tuple of names."""
    return isinstance(thing, tuple) and all([is_name(part) for part in thing])


def are_numbers(thing):
    """Whether any value is a tuple of numbers."""
    return isinstance(thing, tuple) and all([is_number(part) for part in thing])
