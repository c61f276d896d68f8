"""How many bad units some sales can have."""
from lotback.errors import NoStory
from lotback.kinds import is_number
from lotback.numberflows import greatest_told, least_told, numbers_by, story_reaching
from lotback.subsets import telling_sets
from lotback.usable import check_lots, check_sales
from lotback.worths import number_in


def least_number(case, sales, lots):
    """The least number that a story by lots has."""
    check_lots(case, lots)
    check_sales(case, sales)
    told = least_told(case, sales, lots)
    if told is None:
        raise NoStory(lots)
    return number_in(told[0], sales)


def greatest_number(case, sales, lots):
    """The greatest number that a story by lots has."""
    check_lots(case, lots)
    check_sales(case, sales)
    told = greatest_told(case, sales, lots)
    if told is None:
        raise NoStory(lots)
    return number_in(told[0], sales)


def numbers_of(case, sales):
    """The set of the numbers that possible stories have."""
    check_sales(case, sales)
    return numbers_by(case, sales, telling_sets(case))


def story_with(case, sales, lots, number):
    """Any possible story by lots with this number, any value; or None."""
    check_lots(case, lots)
    check_sales(case, sales)
    if not is_number(number):
        return None
    return story_reaching(case, sales, lots, number)
