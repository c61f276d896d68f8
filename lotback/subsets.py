"""Sets, as ascending tuples, out of a set; and the sets of suspects that matter."""
from lotback.bookparts import lots_of


def sets_up_to(things, most):
    """The ascending list of all sets of at most so many of these things."""
    sets = [()]
    for thing in things:
        longer = [(*some, thing) for some in sets if len(some) < most]
        sets = [*sets, *longer]
    return sorted(sets)


def greatest_sets(things, most):
    """The ascending list of the sets of as many of these things as possible, at most so many."""
    many = min(most, len(things))
    sets = [()]
    for k, thing in enumerate(things):
        longer = [(*some, thing) for some in sets if len(some) < many]
        # Those that the things behind cannot fill up are left out.
        others = [some for some in sets if len(some) + len(things) - k > many]
        sets = [*longer, *others]
    return sorted(sets)


def is_within(some, others):
    """Whether all elements of a set are among others."""
    return all([thing in others for thing in some])


def has_within(sets, some):
    """Whether one of these sets is within a set."""
    return any([is_within(part, some) for part in sets])


def without(things, some):
    """The things, in order, that are not among some."""
    return tuple([thing for thing in things if thing not in some])


def broad_sets(case):
    """The ascending list of the sets of as many suspects as possible, at most few of them."""
    return greatest_sets(case[2], case[3])


def suspects_that_came(case):
    """The set of the suspects that are lots of the book."""
    lots = lots_of(case[0])
    return tuple([lot for lot in case[2] if lot in lots])


def telling_sets(case):
    """The ascending list of sets of at most few suspects that came: each story is by one of them."""
    return greatest_sets(suspects_that_came(case), case[3])


def by_size(sets):
    """Sets in the order of their sizes."""
    return sorted(sets, key=len)


def meets(some, others):
    """Whether a set has an element of others."""
    return any([thing in others for thing in some])


def within_another(sets):
    """The first index of a set that is within another one of these; or None."""
    for k, some in enumerate(sets):
        if any([is_within(some, other) for j, other in enumerate(sets) if j != k]):
            return k
    return None
