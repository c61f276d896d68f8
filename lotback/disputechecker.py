"""The checker of dispute papers."""
from lotback.cases import with_findings_alone
from lotback.errors import InvalidPaper
from lotback.explainchecker import is_barrier_for
from lotback.kinds import is_finding
from lotback.setpairs import ascends, check_none_within, check_two_tuples, firsts_of
from lotback.stories import is_story
from lotback.subsets import broad_sets, has_within, meets, sets_up_to, without


def is_set_of_findings(case, thing):
    """Whether a tuple is a set of findings of the case."""
    for k, part in enumerate(thing):
        # ("bad", True), which equals ("bad", 1), is no finding.
        if not is_finding(part) or part not in case[1] or (k > 0 and part <= thing[k - 1]):
            return False
    return True


def are_barriers(case, thing):
    """Whether any value is a tuple of one barrier for each broad set."""
    sets = broad_sets(case)
    if not isinstance(thing, tuple) or len(thing) != len(sets):
        return False
    return all([is_barrier_for(case, lots, points) for lots, points in zip(sets, thing)])


def check_clash(case, pairs, k):
    """Raise InvalidPaper if pair k is no set of findings with barriers for these alone."""
    some, barriers = pairs[k]
    if not is_set_of_findings(case, some) or not ascends(pairs, k):
        raise InvalidPaper("set", (0, k))
    if not are_barriers(with_findings_alone(case, some), barriers):
        raise InvalidPaper("barriers", (0, k))


def check_drop(case, pairs, k):
    """Raise InvalidPaper if pair k is no set of findings with a story without them."""
    some, story = pairs[k]
    if not is_set_of_findings(case, some) or not ascends(pairs, k):
        raise InvalidPaper("set", (1, k))
    if not is_story(with_findings_alone(case, without(case[1], some)), story):
        raise InvalidPaper("story", (1, k))


def check_each_set_of_findings(case, clashes, drops):
    """Raise InvalidPaper if some set of findings has no clash within it, and something of each drop."""
    for some in sets_up_to(case[1], len(case[1])):
        if not has_within(clashes, some) and all([meets(some, drop) for drop in drops]):
            raise InvalidPaper("missing", some)


def lets_dispute(case, thing):
    """The pair of the ascending tuples of the least clashes and of the least drops, if any value is a dispute paper."""
    check_two_tuples(thing)
    clashes, drops = thing
    for k in range(len(clashes)):
        check_clash(case, clashes, k)
    for k in range(len(drops)):
        check_drop(case, drops, k)
    check_none_within(thing)
    check_each_set_of_findings(case, firsts_of(clashes), firsts_of(drops))
    return firsts_of(clashes), firsts_of(drops)
