"""From which stocks an order is filled so that the worst story is least bad."""
from lotback.askable import check_explained, check_fill, check_order_asked, check_places
from lotback.contents import units_there
from lotback.numberflows import worst_story
from lotback.shields import shield_of
from lotback.subsets import telling_sets
from lotback.worths import number_in


def fills_going_on(begun, there, units):
    """The ascending list of what may go on with the beginning of a fill, by one place more."""
    lacking = units - sum(begun)
    behind = sum(there[len(begun) + 1:])
    most = min(there[len(begun)], lacking)
    return [(*begun, n) for n in range(max(0, lacking - behind), most + 1)]


def fills(case, places, units):
    """Yield all fills of an order, ascending."""
    check_order_asked(case, places, units)
    there = units_there(case[0], places)
    waiting = [()]
    while len(waiting) > 0:
        begun = waiting.pop()
        if len(begun) == len(there):
            yield begun
        else:
            # The last one waiting comes first.
            waiting.extend(fills_going_on(begun, there, units)[::-1])


def case_filled(case, places, fill):
    """The pair of the case of a fill, and of its sales."""
    (all_places, rows), findings, suspects, few = case
    sold = [("sell", place, n) for place, n in zip(places, fill) if n > 0]
    sales = tuple(range(len(rows), len(rows) + len(sold)))
    return ((all_places, (*rows, *sold)), findings, suspects, few), sales


def filled(case, places, fill):
    """The pair of the case of any value, if it is a fill, and of its sales."""
    check_places(case, places)
    check_fill(case, places, fill)
    return case_filled(case, places, fill)


def worst_stories(case, places, units):
    """A list for all fills, ascending: triples (worst number, fill, a story with it)."""
    check_order_asked(case, places, units)
    check_explained(case)
    sets = telling_sets(case)
    triples = []
    for fill in fills(case, places, units):
        longer, sales = case_filled(case, places, fill)
        story = worst_story(longer, sales, sets)
        triples.append((number_in(story, sales), fill, story))
    return triples


def safest(case, places, units):
    """The pair of the least worst number and of the ascending tuple of the fills that have it."""
    triples = worst_stories(case, places, units)
    least = min([worst for worst, _, _ in triples])
    return least, tuple([fill for worst, fill, _ in triples if worst == least])


def order_paper(case, places, units):
    """Any order paper."""
    triples = worst_stories(case, places, units)
    worst, fill, _ = min(triples)
    longer, sales = case_filled(case, places, fill)
    return fill, worst, shield_of(longer, sales, worst), tuple([story for _, _, story in triples])
