"""The checker of order papers."""
from lotback.askable import check_order_asked, is_fill
from lotback.errors import InvalidPaper
from lotback.kinds import is_number
from lotback.orders import case_filled, fills
from lotback.shieldchecker import is_shield
from lotback.stories import is_story
from lotback.worths import number_in


def has_order_form(thing):
    """Whether any value is a tuple of four whose second element is a number, and whose last one is a tuple."""
    return isinstance(thing, tuple) and len(thing) == 4 and is_number(thing[1]) and isinstance(thing[3], tuple)


def is_as_bad(case, places, fill, worst, story):
    """Whether any value is a possible story of the case of a fill, with at least worst bad units in its sales."""
    longer, sales = case_filled(case, places, fill)
    return is_story(longer, story) and number_in(story, sales) >= worst


def lets_order(case, places, units, thing):
    """The worst number of the safest fills, if any value is an order paper."""
    check_order_asked(case, places, units)
    if not has_order_form(thing):
        raise InvalidPaper("shape", -1)
    fill, worst, shield, stories = thing
    if not is_fill(case, places, fill) or sum(fill) != units:
        raise InvalidPaper("fill", -1)
    longer, sales = case_filled(case, places, fill)
    if not is_shield(longer, sales, worst, shield):
        raise InvalidPaper("shield", -1)
    every = list(fills(case, places, units))
    if len(stories) != len(every):
        raise InvalidPaper("many", -1)
    for k, other in enumerate(every):
        if not is_as_bad(case, places, other, worst, stories[k]):
            raise InvalidPaper("story", k)
    return worst
