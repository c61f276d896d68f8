"""The checker of explain papers."""
from lotback.errors import InvalidPaper
from lotback.points import bars, case_ways, misplaced_point, set_sums
from lotback.stories import lets_story
from lotback.usable import check_lots


def has_explain_form(thing):
    """Whether any value is a pair of one of the two words and a tuple."""
    if not isinstance(thing, tuple) or len(thing) != 2 or not isinstance(thing[0], str):
        return False
    return thing[0] in ("story", "barrier") and isinstance(thing[1], tuple)


def check_story_by(case, lots, story):
    """Raise InvalidPaper if any value is no possible story by lots."""
    lets_story(case, story)
    for t, row in enumerate(case[0][1]):
        if row[0] == "come" and sum(story[t]) > 0 and row[2] not in lots:
            raise InvalidPaper("guilty", t)


def check_barrier(case, lots, points):
    """Raise InvalidPaper if a tuple is no barrier for lots."""
    k = misplaced_point(case[0], points)
    if k is not None:
        raise InvalidPaper("point", k)
    if not bars(set_sums(case_ways(case, lots), points)):
        raise InvalidPaper("open", -1)


def lets_explain(case, lots, thing):
    """Whether any value, if it is an explain paper, is a story."""
    check_lots(case, lots)
    if not has_explain_form(thing):
        raise InvalidPaper("shape", -1)
    word, told = thing
    if word == "story":
        check_story_by(case, lots, told)
        return True
    check_barrier(case, lots, told)
    return False


def is_story_by(case, lots, story):
    """Whether any value is a possible story by lots."""
    try:
        check_story_by(case, lots, story)
    except InvalidPaper:
        return False
    return True


def is_barrier_for(case, lots, points):
    """Whether any value is a barrier for lots."""
    if not isinstance(points, tuple):
        return False
    try:
        check_barrier(case, lots, points)
    except InvalidPaper:
        return False
    return True
