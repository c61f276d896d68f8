"""The checkers of shields and bases."""
from lotback.errors import InvalidPaper
from lotback.explainchecker import is_barrier_for
from lotback.kinds import is_whole
from lotback.numberchecker import worth_of_cover, worth_of_floor
from lotback.subsets import broad_sets
from lotback.usable import check_sales


def check_told_pairs(thing, many):
    """Raise InvalidPaper if any value is no tuple of so many pairs (string, any value)."""
    if not isinstance(thing, tuple):
        raise InvalidPaper("shape", -1)
    if not all([isinstance(part, tuple) and len(part) == 2 and isinstance(part[0], str) for part in thing]):
        raise InvalidPaper("shape", -1)
    if len(thing) != many:
        raise InvalidPaper("many", -1)


def is_cover_for(case, sales, lots, number, points):
    """Whether any value is a cover whose worth is at most the number."""
    try:
        worth = worth_of_cover(case, sales, lots, points)
    except InvalidPaper:
        return False
    return is_whole(number) and worth <= number


def is_floor_for(case, sales, lots, number, points):
    """Whether any value is a floor whose worth is at least the number."""
    try:
        worth = worth_of_floor(case, sales, lots, points)
    except InvalidPaper:
        return False
    return is_whole(number) and worth >= number


def wrong_in_pair(case, sales, lots, number, pair, word):
    """The word of what is wrong in a pair, which is of this word or of a barrier; None if nothing is."""
    told, points = pair
    if told not in (word, "barrier"):
        return "word"
    if told == "barrier":
        right = is_barrier_for(case, lots, points)
    elif word == "cover":
        right = is_cover_for(case, sales, lots, number, points)
    else:
        right = is_floor_for(case, sales, lots, number, points)
    return None if right else "points"


def lets_pairs(case, sales, number, thing, word):
    """How many pairs of any value are no barriers, if it has for each broad set one of this word or of a barrier."""
    check_sales(case, sales)
    sets = broad_sets(case)
    check_told_pairs(thing, len(sets))
    for k, lots in enumerate(sets):
        wrong = wrong_in_pair(case, sales, lots, number, thing[k], word)
        if wrong is not None:
            raise InvalidPaper(wrong, k)
    return len([told for told, _ in thing if told == word])


def lets_shield(case, sales, number, thing):
    """How many pairs are no barriers, if any value is a shield of these sales for a number."""
    return lets_pairs(case, sales, number, thing, "cover")


def lets_base(case, sales, number, thing):
    """How many pairs are no barriers, if any value is a base of these sales for a number."""
    return lets_pairs(case, sales, number, thing, "floor")


def is_shield(case, sales, number, thing):
    """Whether any value is a shield of these sales for a number."""
    try:
        lets_shield(case, sales, number, thing)
    except InvalidPaper:
        return False
    return True


def is_base(case, sales, number, thing):
    """Whether any value is a base of these sales for a number."""
    try:
        lets_base(case, sales, number, thing)
    except InvalidPaper:
        return False
    return True
