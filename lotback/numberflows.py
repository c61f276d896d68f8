"""Stories by lots that have more or fewer bad units in some sales; the lots need not be few or suspects."""
from lotback.circulation import Flow
from lotback.explaining import story_told
from lotback.points import case_ways, points_of
from lotback.worths import leads_out_of, number_in

# The end to which these sales lead, instead of to outside: so what comes to it is the number of a story.
ASKED = "asked"


def asked_flow(case, sales, lots):
    """The Flow of any story by lots, in which these sales lead to ASKED; None if there is no story."""
    flow = Flow(case_ways(case, lots))
    if flow.settle() is not None:
        return None
    flow.add_end(ASKED)
    leading = [k for k, way in enumerate(flow.ways) if leads_out_of(way, sales)]
    for k in leading:
        flow.lead_away(k, ASKED)
    return flow


def units_asked(case, sales):
    """How many units these sales have."""
    return sum([case[0][1][t][2] for t in sales])


def greatest_told(case, sales, lots):
    """The pair of a story with the greatest number and of a cover that shows it; None if there is no story."""
    flow = asked_flow(case, sales, lots)
    if flow is None:
        return None
    # There cannot be more than all of them: so it ends only when no more can pass.
    _, ends = flow.pass_more(None, ASKED, units_asked(case, sales))
    cover = [point for point in points_of(case[0]) if point in ends]
    return story_told(case[0], flow), tuple(cover)


def least_told(case, sales, lots):
    """The pair of a story with the least number and of a floor that shows it; None if there is no story."""
    flow = asked_flow(case, sales, lots)
    if flow is None:
        return None
    _, ends = flow.pass_more(ASKED, None, units_asked(case, sales))
    floor = [point for point in points_of(case[0]) if point not in ends]
    return story_told(case[0], flow), tuple(floor)


def least_story(case, sales, sets):
    """A story with the least number that one by any of these sets of lots has; None if there is no story."""
    for lots in sets:
        told = least_told(case, sales, lots)
        if told is not None:
            # The least number is the same by each set by which there is a story.
            return told[0]
    return None


def worst_story(case, sales, sets):
    """A story with the greatest number that one by any of these sets of lots has; None if there is no story."""
    told = [greatest_told(case, sales, lots) for lots in sets]
    numbered = [(number_in(pair[0], sales), pair[0]) for pair in told if pair is not None]
    if len(numbered) == 0:
        return None
    return max(numbered)[1]


def story_above(case, sales, sets, left):
    """A story by any of these sets of lots with a number greater than left, or None."""
    for lots in sets:
        told = greatest_told(case, sales, lots)
        if told is not None and number_in(told[0], sales) > left:
            return told[0]
    return None


def bounds_by(case, sales, sets):
    """The pair of the least and the greatest number of stories by any of these sets; None if there is no story."""
    least = least_story(case, sales, sets)
    if least is None:
        return None
    return number_in(least, sales), number_in(worst_story(case, sales, sets), sales)


def numbers_by(case, sales, sets):
    """The ascending tuple of the numbers that stories by any of these sets of lots have."""
    bounds = bounds_by(case, sales, sets)
    if bounds is None:
        return ()
    return tuple(range(bounds[0], bounds[1] + 1))


def story_reaching(case, sales, lots, number):
    """A story by lots with this number, or None."""
    flow = asked_flow(case, sales, lots)
    if flow is None:
        return None
    lacking = number - flow.extra[ASKED]
    if lacking > 0:
        over, _ = flow.pass_more(None, ASKED, lacking)
    else:
        over, _ = flow.pass_more(ASKED, None, -lacking)
    if over > 0:
        return None
    return story_told(case[0], flow)


def story_by_some(case, sales, sets, number):
    """A story by any of these sets of lots with this number, or None."""
    for lots in sets:
        story = story_reaching(case, sales, lots, number)
        if story is not None:
            return story
    return None
