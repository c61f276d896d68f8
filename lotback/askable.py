"""Parameters that may be any values, of what is asked about calling back, looks and orders."""
from lotback.contents import units_there
from lotback.errors import NoStory, NotUsable
from lotback.explaining import is_explained
from lotback.kinds import are_numbers, is_index, is_number
from lotback.rowfacts import names_of
from lotback.usable import check_sales


def check_left(left):
    """Raise NotUsable if any value is no number."""
    if not is_number(left):
        raise NotUsable("left", -1)


def check_parcels(case, parcels):
    """Raise NotUsable if any value is no set of rows about which there is no finding."""
    if not isinstance(parcels, tuple):
        raise NotUsable("parcels", -1)
    found = [t for _, t in case[1]]
    for k, t in enumerate(parcels):
        if not is_index(t, len(case[0][1])) or t in found or (k > 0 and t <= parcels[k - 1]):
            raise NotUsable("parcels", k)


def check_places(case, places):
    """Raise NotUsable if any value is no nonempty set of places."""
    if not isinstance(places, tuple):
        raise NotUsable("places", -1)
    names = names_of(case[0][0])
    for k, place in enumerate(places):
        if place not in names or (k > 0 and place <= places[k - 1]):
            raise NotUsable("places", k)
    if len(places) == 0:
        raise NotUsable("places", -1)


def check_units(case, places, units):
    """Raise NotUsable if any value is no number from 1 on of units that these places have together."""
    if not is_number(units) or not 0 < units <= sum(units_there(case[0], places)):
        raise NotUsable("units", -1)


def is_fill(case, places, thing):
    """Whether any value has a number for each of these places, at most what is there, not all 0."""
    if not are_numbers(thing) or len(thing) != len(places):
        return False
    return sum(thing) > 0 and all([n <= most for n, most in zip(thing, units_there(case[0], places))])


def check_fill(case, places, fill):
    """Raise NotUsable if any value is no fill from these places."""
    if not is_fill(case, places, fill):
        raise NotUsable("fill", -1)


def check_explained(case):
    """Raise NoStory if the case has no possible story."""
    if not is_explained(case):
        raise NoStory(case[2])


def check_looks_asked(case, sales, parcels):
    """Raise the first error of what is asked about looks."""
    check_sales(case, sales)
    check_parcels(case, parcels)
    check_explained(case)


def check_order_asked(case, places, units):
    """Raise the first error of what is asked about an order."""
    check_places(case, places)
    check_units(case, places, units)
