"""Readers of the written forms of houses and of what happens in them."""
from lotback.bookreadings import words_read
from lotback.errors import InvalidText
from lotback.houseevents import event_form


def read_event(text, *, line=0):
    """The event that any string writes."""
    words = text.split(" ")
    form = event_form(words[0])
    if form is None:
        raise InvalidText(line, 0)
    return words_read(words, form, line, 0)


def read_house(text, line):
    """What the line of a House writes: ("house", places, careful)."""
    words = text.split(" ")
    if words[0] != "house":
        raise InvalidText(line, 0)
    # As many pairs as there are words for, the last one perhaps not whole; one at least.
    pairs = max(1, (len(words) - 1) // 2)
    told = words_read(words, ("manner", *(("name", "kind") * pairs)), line, 0)
    places = [(told[k], told[k + 1]) for k in range(2, len(told), 2)]
    return "house", tuple(places), told[1] == "careful"


def read_log(lines):
    """The log that a list of strings writes."""
    if len(lines) == 0:
        raise InvalidText(0, 0)
    house = read_house(lines[0], 0)
    events = [read_event(text, line=k) for k, text in enumerate(lines[1:], start=1)]
    return (house, *events)
