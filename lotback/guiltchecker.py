"""The checker of guilt papers."""
from lotback.errors import InvalidPaper, NotUsable
from lotback.explainchecker import is_barrier_for, is_story_by
from lotback.setpairs import ascends, check_none_within, check_two_tuples, firsts_of
from lotback.subsets import has_within, is_within, sets_up_to
from lotback.usable import check_lots


def is_set_of_lots(case, thing):
    """Whether any value is a set of at most few suspects."""
    try:
        check_lots(case, thing)
    except NotUsable:
        return False
    return True


def check_told(case, pairs, k):
    """Raise InvalidPaper if pair k is no set of suspects with a story by it."""
    lots, story = pairs[k]
    if not is_set_of_lots(case, lots) or not ascends(pairs, k):
        raise InvalidPaper("set", (0, k))
    if not is_story_by(case, lots, story):
        raise InvalidPaper("story", (0, k))


def check_barred(case, pairs, k):
    """Raise InvalidPaper if pair k is no set of suspects with a barrier for it."""
    lots, points = pairs[k]
    if not is_set_of_lots(case, lots) or not ascends(pairs, k):
        raise InvalidPaper("set", (1, k))
    if not is_barrier_for(case, lots, points):
        raise InvalidPaper("barrier", (1, k))


def check_each_set(case, told, barred):
    """Raise InvalidPaper if a set of at most few suspects has no told one in it, and is within no barred one."""
    for lots in sets_up_to(case[2], case[3]):
        if not has_within(told, lots) and not any([is_within(lots, others) for others in barred]):
            raise InvalidPaper("missing", lots)


def lets_guilt(case, thing):
    """The ascending tuple of the least sets, if any value is a guilt paper."""
    check_two_tuples(thing)
    told, barred = thing
    for k in range(len(told)):
        check_told(case, told, k)
    for k in range(len(barred)):
        check_barred(case, barred, k)
    check_none_within(thing)
    check_each_set(case, firsts_of(told), firsts_of(barred))
    return firsts_of(told)
