"""Papers that are two tuples of pairs, of a set and of what is told of it."""
from lotback.errors import InvalidPaper
from lotback.subsets import within_another


def are_pairs(thing):
    """Whether any value is a tuple of pairs (tuple, any value)."""
    if not isinstance(thing, tuple):
        return False
    return all([isinstance(part, tuple) and len(part) == 2 and isinstance(part[0], tuple) for part in thing])


def check_two_tuples(thing):
    """Raise InvalidPaper if any value is no pair of tuples of pairs."""
    if not isinstance(thing, tuple) or len(thing) != 2 or not are_pairs(thing[0]) or not are_pairs(thing[1]):
        raise InvalidPaper("shape", -1)


def firsts_of(pairs):
    """The tuple of the sets of these pairs."""
    return tuple([some for some, _ in pairs])


def ascends(pairs, k):
    """Whether the set of pair k is greater than that of the pair before."""
    return k == 0 or pairs[k][0] > pairs[k - 1][0]


def check_none_within(thing):
    """Raise InvalidPaper if a set is within another one of the same tuple."""
    for j, pairs in enumerate(thing):
        k = within_another(firsts_of(pairs))
        if k is not None:
            raise InvalidPaper("within", (j, k))
