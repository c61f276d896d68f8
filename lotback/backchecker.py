"""The checker of back papers."""
from lotback.askable import check_left
from lotback.bookparts import sales_outside
from lotback.errors import InvalidPaper, NotUsable
from lotback.kinds import are_numbers
from lotback.numberflows import units_asked
from lotback.shieldchecker import is_shield
from lotback.stories import is_story
from lotback.subsets import without
from lotback.usable import check_sales
from lotback.worths import bad_sales, number_in


def is_set_of_sales(case, thing):
    """Whether any value is a set of sales outside."""
    try:
        check_sales(case, thing)
    except NotUsable:
        return False
    return True


def has_tree_form(tree):
    """Whether any value is a pair of any value and a tuple of pairs."""
    if not isinstance(tree, tuple) or len(tree) != 2 or not isinstance(tree[1], tuple):
        return False
    return all([isinstance(branch, tuple) and len(branch) == 2 for branch in tree[1]])


def check_node(case, left, others, lacking, tree, n):
    """Raise InvalidPaper if any value does not begin a tree for these other sales, as node n."""
    if tree == ():
        if lacking > 0:
            raise InvalidPaper("few", n)
        return
    if not has_tree_form(tree):
        raise InvalidPaper("shape", n)
    story, branches = tree
    if not is_story(case, story) or number_in(story, others) <= left:
        raise InvalidPaper("story", n)
    firsts = tuple([t for t, _ in branches])
    if not are_numbers(firsts) or firsts != bad_sales(story, others):
        raise InvalidPaper("branches", n)


def check_back_tree(case, left, others, lacking, tree, n):
    """How many nodes any value has, if it is a tree for these other sales; so many units are lacking on the way."""
    check_node(case, left, others, lacking, tree, n)
    many = 1
    if tree != ():
        for t, branch in tree[1]:
            units = units_asked(case, (t,))
            many += check_back_tree(case, left, without(others, (t,)), lacking - units, branch, n + many)
    return many


def lets_back(case, left, thing):
    """How many units are called back, if any value is a back paper."""
    check_left(left)
    if not isinstance(thing, tuple) or len(thing) != 3 or not isinstance(thing[0], tuple):
        raise InvalidPaper("shape", -1)
    called, shield, tree = thing
    if not is_set_of_sales(case, called):
        raise InvalidPaper("called", -1)
    outside = sales_outside(case[0])
    if not is_shield(case, without(outside, called), left, shield):
        raise InvalidPaper("shield", -1)
    units = units_asked(case, called)
    check_back_tree(case, left, outside, units, tree, 0)
    return units
