"""The checkers of covers, floors and number papers."""
from lotback.errors import InvalidPaper
from lotback.explainchecker import check_story_by
from lotback.points import case_ways, misplaced_point
from lotback.usable import check_lots, check_sales
from lotback.worths import cover_sum, floor_sum, number_in


def check_set_of_points(case, thing):
    """Raise InvalidPaper if any value is no set of points."""
    if not isinstance(thing, tuple):
        raise InvalidPaper("points", -1)
    k = misplaced_point(case[0], thing)
    if k is not None:
        raise InvalidPaper("points", k)


def worth_of_cover(case, sales, lots, thing):
    """The worth of any value, if it is a cover; lots need not be few or suspects."""
    check_set_of_points(case, thing)
    for t in sales:
        if ("out", t) not in thing:
            raise InvalidPaper("sale", t)
    return cover_sum(case_ways(case, lots), thing)


def worth_of_floor(case, sales, lots, thing):
    """The worth of any value, if it is a floor; lots need not be few or suspects."""
    check_set_of_points(case, thing)
    return floor_sum(case_ways(case, lots), sales, thing)


def cover_worth(case, sales, lots, thing):
    """The worth of any value by lots, if it is a cover of the sales."""
    check_lots(case, lots)
    check_sales(case, sales)
    return worth_of_cover(case, sales, lots, thing)


def floor_worth(case, sales, lots, thing):
    """The worth of any value by lots, if it is a floor of the sales."""
    check_lots(case, lots)
    check_sales(case, sales)
    return worth_of_floor(case, sales, lots, thing)


def has_number_form(thing):
    """Whether any value is a tuple of one of the two words and two values."""
    return isinstance(thing, tuple) and len(thing) == 3 and thing[0] in ("least", "greatest")


def lets_number(case, sales, lots, thing):
    """The pair (word, number) of any value, if it is a number paper."""
    check_lots(case, lots)
    check_sales(case, sales)
    if not has_number_form(thing):
        raise InvalidPaper("shape", -1)
    word, story, points = thing
    check_story_by(case, lots, story)
    if word == "greatest":
        worth = worth_of_cover(case, sales, lots, points)
    else:
        worth = worth_of_floor(case, sales, lots, points)
    number = number_in(story, sales)
    if worth != number:
        raise InvalidPaper("worth", -1)
    return word, number
