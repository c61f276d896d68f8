"""The checkers of look plans, limit trees and looks papers."""
from lotback.askable import check_parcels
from lotback.cases import with_answers
from lotback.errors import InvalidPaper
from lotback.kinds import are_numbers, is_number
from lotback.outlooks import WORDS
from lotback.shieldchecker import is_base, is_shield
from lotback.stories import is_story
from lotback.subsets import without
from lotback.usable import check_sales
from lotback.worths import number_in


def is_pair_with_word(thing):
    """Whether any value is a pair of a string and any value."""
    return isinstance(thing, tuple) and len(thing) == 2 and isinstance(thing[0], str)


def is_look(thing):
    """Whether any value is a tuple of four that begins with "look"."""
    return isinstance(thing, tuple) and len(thing) == 4 and thing[0] == "look"


def check_end(case, sales, plan, n):
    """Raise InvalidPaper if a pair is no end of a look plan, as node n."""
    word, pairs = plan
    if word not in WORDS:
        raise InvalidPaper("word", n)
    if word == "clean":
        accepted = is_shield(case, sales, 0, pairs)
    else:
        accepted = is_base(case, sales, 1, pairs)
    if not accepted:
        raise InvalidPaper("end", n)


def check_plan(case, sales, left, plan, n):
    """The pair (looks, nodes) of any value, if it is a look plan for the parcels left, from node n on."""
    if is_pair_with_word(plan):
        check_end(case, sales, plan, n)
        return 0, 1
    if not is_look(plan):
        raise InvalidPaper("shape", n)
    t = plan[1]
    if not is_number(t) or t not in left:
        raise InvalidPaper("parcel", n)
    looks, many = 0, 1
    for word, branch in zip(WORDS, plan[2:]):
        present = with_answers(case, ((word, t),))
        more, nodes = check_plan(present, sales, without(left, (t,)), branch, n + many)
        looks = max(looks, more)
        many += nodes
    return looks + 1, many


def lets_look_plan(case, sales, parcels, thing):
    """How many looks any value has, if it is a look plan."""
    check_sales(case, sales)
    check_parcels(case, parcels)
    looks, _ = check_plan(case, sales, parcels, thing, 0)
    return looks


def has_limit_form(tree):
    """Whether any value is a triple whose last element is a tuple of triples."""
    if not isinstance(tree, tuple) or len(tree) != 3 or not isinstance(tree[2], tuple):
        return False
    return all([isinstance(branch, tuple) and len(branch) == 3 for branch in tree[2]])


def is_story_as(case, sales, story, word):
    """Whether any value is a possible story with a bad unit in the sales, or without one."""
    return is_story(case, story) and (number_in(story, sales) > 0) == (word == "bad")


def are_answered(branches, left):
    """Whether branches, if there are any, have just the parcels left, with an answer each."""
    if len(branches) == 0:
        return True
    firsts = tuple([t for t, _, _ in branches])
    return are_numbers(firsts) and firsts == left and all([word in WORDS for _, word, _ in branches])


def check_limit_node(case, sales, left, tree, n):
    """Raise InvalidPaper if any value but () does not begin a limit tree for the parcels left, as node n."""
    if not has_limit_form(tree):
        raise InvalidPaper("shape", n)
    one, other, branches = tree
    if not is_story_as(case, sales, one, "clean"):
        raise InvalidPaper("story", (n, 0))
    if not is_story_as(case, sales, other, "bad"):
        raise InvalidPaper("story", (n, 1))
    if not are_answered(branches, left):
        raise InvalidPaper("branches", n)


def check_limit(case, sales, left, tree, n):
    """The pair (worth, nodes) of any value, if it is a limit tree for the parcels left, from node n on."""
    if tree == ():
        return 0, 1
    check_limit_node(case, sales, left, tree, n)
    worths = []
    many = 1
    for t, word, branch in tree[2]:
        present = with_answers(case, ((word, t),))
        worth, nodes = check_limit(present, sales, without(left, (t,)), branch, n + many)
        worths.append(worth)
        many += nodes
    return worth_above(worths, left), many


def worth_above(worths, left):
    """The worth of a limit tree whose branches have these worths; None for endless."""
    if len(left) == 0:
        return None
    if len(worths) == 0:
        return 1
    ending = [worth for worth in worths if worth is not None]
    return 1 + min(ending) if len(ending) > 0 else None


def lets_limit(case, sales, parcels, thing):
    """The worth of any value, if it is a limit tree; None for endless."""
    check_sales(case, sales)
    check_parcels(case, parcels)
    worth, _ = check_limit(case, sales, parcels, thing, 0)
    return worth


def is_endless_or_at_least(worth, looks):
    """Whether a worth, None for endless, is at least so many looks; None for looks: no plan."""
    if worth is None:
        return True
    return looks is not None and worth >= looks


def lets_looks(case, sales, parcels, thing):
    """The fewest looks, or None, if any value is a looks paper."""
    check_sales(case, sales)
    check_parcels(case, parcels)
    if not isinstance(thing, tuple) or len(thing) != 2:
        raise InvalidPaper("shape", -1)
    plan, tree = thing
    looks = None
    if plan is not None:
        looks = looks_or_refused(case, sales, parcels, plan)
    worth = worth_or_refused(case, sales, parcels, tree)
    if not is_endless_or_at_least(worth, looks):
        raise InvalidPaper("few", -1)
    return looks


def looks_or_refused(case, sales, parcels, plan):
    """The looks of a look plan; InvalidPaper of a looks paper otherwise."""
    try:
        return lets_look_plan(case, sales, parcels, plan)
    except InvalidPaper:
        raise InvalidPaper("plan", -1) from None


def worth_or_refused(case, sales, parcels, tree):
    """The worth of a limit tree; InvalidPaper of a looks paper otherwise."""
    try:
        return lets_limit(case, sales, parcels, tree)
    except InvalidPaper:
        raise InvalidPaper("limit", -1) from None
