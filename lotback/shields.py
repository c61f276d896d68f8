"""The worst number of some sales; shields, that show that no story has more, and bases, that none has fewer."""
from lotback.errors import NoStory
from lotback.explaining import answer
from lotback.kinds import is_whole
from lotback.numberflows import greatest_told, least_told, worst_story
from lotback.subsets import broad_sets, telling_sets
from lotback.usable import check_sales
from lotback.worths import number_in


def worst_number(case, sales):
    """The greatest number of bad units in these sales that a story has."""
    check_sales(case, sales)
    story = worst_story(case, sales, telling_sets(case))
    if story is None:
        raise NoStory(case[2])
    return number_in(story, sales)


def shield_pair(case, sales, lots, number):
    """The pair of a shield for one broad set, or None."""
    told = greatest_told(case, sales, lots)
    if told is None:
        return ("barrier", answer(case, lots)[1])
    story, cover = told
    if not is_whole(number) or number_in(story, sales) > number:
        return None
    return ("cover", cover)


def base_pair(case, sales, lots, number):
    """The pair of a base for one broad set, or None."""
    told = least_told(case, sales, lots)
    if told is None:
        return ("barrier", answer(case, lots)[1])
    story, floor = told
    if not is_whole(number) or number_in(story, sales) < number:
        return None
    return ("floor", floor)


def shield_of(case, sales, number):
    """Any shield of these sales for a number, or None."""
    check_sales(case, sales)
    pairs = [shield_pair(case, sales, lots, number) for lots in broad_sets(case)]
    if any([pair is None for pair in pairs]):
        return None
    return tuple(pairs)


def base_of(case, sales, number):
    """Any base of these sales for a number, or None."""
    check_sales(case, sales)
    pairs = [base_pair(case, sales, lots, number) for lots in broad_sets(case)]
    if any([pair is None for pair in pairs]):
        return None
    return tuple(pairs)
