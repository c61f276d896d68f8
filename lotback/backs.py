"""Which sales outside have to be called back, so that at most so many bad units stay outside."""
from lotback.askable import check_explained, check_left
from lotback.bookparts import sales_outside
from lotback.numberflows import least_story, story_above, story_reaching, units_asked
from lotback.shields import shield_of
from lotback.subsets import sets_up_to, telling_sets, without
from lotback.worths import bad_sales, number_in


def sets_by_units(case):
    """The ascending list of pairs (units, set) of all sets of sales outside."""
    sales = sales_outside(case[0])
    return sorted([(units_asked(case, called), called) for called in sets_up_to(sales, len(sales))])


def enough_sets(case, left):
    """The pair of the fewest units that are enough, and of the ascending tuple of the sets that have them."""
    outside = sales_outside(case[0])
    sets = telling_sets(case)
    enough = []
    fewest = units_asked(case, outside)
    refuting = []
    for units, called in sets_by_units(case):
        if units > fewest:
            break
        others = without(outside, called)
        if not any([number_in(story, others) > left for story in refuting]):
            story = story_above(case, others, sets, left)
            if story is None:
                # All have at least as many units: so these are the fewest.
                fewest = units
                enough.append(called)
            else:
                refuting.append(story)
    return fewest, tuple(enough)


def back_sets(case, left):
    """The ascending tuple of all sets of sales that are enough with the fewest units."""
    check_left(left)
    check_explained(case)
    return enough_sets(case, left)[1]


def fewest_back(case, left):
    """How many units have to be called back."""
    check_left(left)
    check_explained(case)
    return enough_sets(case, left)[0]


def story_in_few_sales(case, left, others):
    """A story with more than left bad units in these sales, if there is one, in few of them."""
    sets = telling_sets(case)
    # One more than left, or more if none has so few: so the fewest sales have to be gone along.
    number = max(left + 1, number_in(least_story(case, others, sets), others))
    told = [story_reaching(case, others, lots, number) for lots in sets]
    _, story = min([(len(bad_sales(some, others)), some) for some in told if some is not None])
    return story


def back_tree(case, left, others, lacking, trees):
    """A tree for these other sales, if so many units are lacking on the way; trees has those that are known."""
    if lacking <= 0:
        return ()
    if others not in trees:
        story = story_in_few_sales(case, left, others)
        branches = []
        for t in bad_sales(story, others):
            units = units_asked(case, (t,))
            branches.append((t, back_tree(case, left, without(others, (t,)), lacking - units, trees)))
        trees[others] = (story, tuple(branches))
    return trees[others]


def back_paper(case, left):
    """Any back paper."""
    check_left(left)
    check_explained(case)
    outside = sales_outside(case[0])
    fewest, sets = enough_sets(case, left)
    shield = shield_of(case, without(outside, sets[0]), left)
    return sets[0], shield, back_tree(case, left, outside, fewest, {})
