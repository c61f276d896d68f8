"""Stories by a set of lots, or barriers that bar them."""
from lotback.bookways import part_ones
from lotback.circulation import Flow
from lotback.points import case_ways, points_of
from lotback.usable import check_lots


def story_told(book, flow):
    """The story that the numbers on ways tell."""
    passing = {way[:2]: flow.passing[k] for k, way in enumerate(flow.ways)}
    return tuple([
        tuple([passing[(one, ("in", t))] for one in ones]) for t, ones in enumerate(part_ones(book))
    ])


def points_told(book, ends):
    """The barrier that ends tell which lack some, and to which no more can get."""
    if None in ends:
        # A barrier has points alone: what outside lacks is too much for all other points.
        return tuple([point for point in points_of(book) if point not in ends])
    return tuple(sorted(list(ends)))


def answer(case, lots):
    """The pair (story, None) or (None, barrier) by lots, which need not be few or suspects."""
    flow = Flow(case_ways(case, lots))
    ends = flow.settle()
    if ends is None:
        return story_told(case[0], flow), None
    return None, points_told(case[0], ends)


def story_by(case, lots):
    """Any possible story by lots, or None."""
    check_lots(case, lots)
    story, _ = answer(case, lots)
    return story


def barrier_by(case, lots):
    """Any barrier for lots, or None."""
    check_lots(case, lots)
    _, points = answer(case, lots)
    return points


def helpful_lots(case, lots, points):
    """Other suspects that come into a barrier for lots: by none of the rest can there be a story."""
    inside = {point: True for point in points}
    coming = [row[2] for t, row in enumerate(case[0][1]) if row[0] == "come" and ("in", t) in inside]
    return tuple([lot for lot in case[2] if lot in coming and lot not in lots])


def story_of(case):
    """Any possible story, or None."""
    if answer(case, case[2])[0] is None:
        # With fewer lots no barrier is lost.
        return None
    waiting = [()]
    seen = {(): True}
    while len(waiting) > 0:
        lots = waiting.pop()
        story, points = answer(case, lots)
        if story is not None:
            return story
        if len(lots) < case[3]:
            for lot in helpful_lots(case, lots, points):
                more = tuple(sorted([*lots, lot]))
                if more not in seen:
                    seen[more] = True
                    waiting.append(more)
    return None


def is_explained(case):
    """Whether there is a possible story."""
    return story_of(case) is not None


def explain_paper(case, lots):
    """Any explain paper for lots."""
    check_lots(case, lots)
    story, points = answer(case, lots)
    if story is None:
        return ("barrier", points)
    return ("story", story)
