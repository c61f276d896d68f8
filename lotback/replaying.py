"""Logs of houses, and houses made of them again."""
from lotback.bookchecker import is_book
from lotback.houseevents import is_event
from lotback.houses import House


def makes_house(thing):
    """Whether any value is ("house", places, careful), of which a House can be made."""
    if not isinstance(thing, tuple) or len(thing) != 3 or thing[0] != "house":
        return False
    return is_book((thing[1], ())) and isinstance(thing[2], bool)


def is_log(thing):
    """Whether any value is a tuple of what makes a House, and of events by kind."""
    if not isinstance(thing, tuple) or len(thing) == 0:
        return False
    return makes_house(thing[0]) and all([is_event(event) for event in thing[1:]])


def replayed(log):
    """A House behind the events of a log."""
    return House.after(log)
