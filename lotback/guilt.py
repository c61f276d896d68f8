"""Which sets of lots can be those with bad units."""
from lotback.bookparts import lots_of
from lotback.circulation import Flow
from lotback.errors import NoStory
from lotback.explaining import answer, helpful_lots
from lotback.points import case_ways
from lotback.subsets import by_size, has_within, meets, sets_up_to, suspects_that_came, without


def forced_way(way, rows):
    """A way from outside to a row, so that what comes passes its lot first; any other way as it is."""
    one, other, least, greatest = way
    if one is None:
        return ("lot", rows[other[1]][2]), other, least, greatest
    return way


def forced_ways(case, lots):
    """The ways by lots, on which at least one bad unit of each of them has to come."""
    rows = case[0][1]
    ways = [forced_way(way, rows) for way in case_ways(case, lots)]
    many = sum([row[3] for row in rows if row[0] == "come"])
    for lot in lots_of(case[0]):
        ways.append((None, ("lot", lot), 1 if lot in lots else 0, many))
    return ways


def can_be_guilty(case, lots):
    """Whether some story has just these lots, which came, as its guilty."""
    return Flow(forced_ways(case, lots)).settle() is None


def least_guilty(case):
    """The ascending tuple of the least sets by which there is a story."""
    least = []
    helpful = []
    for lots in by_size(sets_up_to(suspects_that_came(case), case[3])):
        # A barrier bars all lots that do not help against it.
        barred = any([not meets(others, lots) for others in helpful])
        if not barred and not has_within(least, lots):
            story, points = answer(case, lots)
            if story is not None:
                least.append(lots)
            else:
                helpful.append(helpful_lots(case, lots, points))
    return tuple(sorted(least))


def guilty_sets(case):
    """The ascending tuple of the guilty sets."""
    least = least_guilty(case)
    sets = sets_up_to(suspects_that_came(case), case[3])
    return tuple([lots for lots in sets if has_within(least, lots) and can_be_guilty(case, lots)])


def guilty_sets_told(case):
    """The guilty sets of a case that is explained."""
    sets = guilty_sets(case)
    if len(sets) == 0:
        raise NoStory(case[2])
    return sets


def surely_bad(case):
    """The set of the lots of the book that are in each guilty set."""
    sets = guilty_sets_told(case)
    return tuple([lot for lot in lots_of(case[0]) if all([lot in lots for lots in sets])])


def can_be_bad(case):
    """The set of the lots of the book that are in some guilty set."""
    sets = guilty_sets_told(case)
    return tuple([lot for lot in lots_of(case[0]) if any([lot in lots for lots in sets])])


def cleared(case):
    """The set of the lots of the book that are in no guilty set."""
    return without(lots_of(case[0]), can_be_bad(case))
